import itertools
import random
import unittest

from bunkmates.errors import BadPairing
from bunkmates.halves import half_pairing, is_steady
from tests import cases


class HalfPairing(unittest.TestCase):
    def test_nobody(self):
        self.assertEqual(half_pairing([]), [])

    def test_one_person(self):
        self.assertEqual(half_pairing([[]]), [None])

    def test_two(self):
        self.assertEqual(half_pairing([[1], [0]]), [1, 0])
        self.assertEqual(half_pairing([[1], []]), [None, None])
        self.assertEqual(half_pairing([[], [0]]), [None, None])

    def test_odd_rings(self):
        self.assertEqual(half_pairing(cases.THREE), [1, 2, 0])
        self.assertEqual(half_pairing(cases.THREE_BACK), [2, 0, 1])
        self.assertEqual(half_pairing(cases.FOUR), [1, 2, 0, None])
        self.assertEqual(half_pairing(cases.TWICE), cases.TWICE_HALF)

    def test_behind_a_ring(self):
        self.assertEqual(half_pairing(cases.SIX), [5, 2, 1, 4, 3, 0])
        self.assertIn(half_pairing(cases.SEVEN), [[6, 3, 4, 5, 2, 1, 0], [2, 3, 0, 5, 6, 1, 4]])

    def test_one_of_several(self):
        self.assertIn(half_pairing(cases.CIRCLE), [[1, 0, 3, 2], [3, 2, 1, 0], [1, 2, 3, 0]])

    def test_kinds(self):
        told = half_pairing(cases.FOUR)
        self.assertIs(type(told), list)
        self.assertEqual([type(other) for other in told], [int, int, int, type(None)])

    def test_is_a_steady_one(self):
        for lists in itertools.chain(cases.many_lists(14, 600, 12), cases.random_tables(15)):
            rows = cases.plain_mutual(lists)
            half = half_pairing(lists)
            self.assertEqual(len(half), len(lists))
            self.assertIsNone(cases.plain_wrong_half(rows, half))
            self.assertTrue(cases.plain_is_steady(rows, half))
            self.assertIs(is_steady(lists, half), True)
            self.assertEqual(half_pairing(lists), half)


class IsSteady(unittest.TestCase):
    def test_nobody(self):
        self.assertIs(is_steady([], []), True)

    def test_one_person(self):
        self.assertIs(is_steady([[]], [None]), True)

    def test_two(self):
        self.assertIs(is_steady([[1], [0]], [1, 0]), True)
        self.assertIs(is_steady([[1], [0]], [None, None]), False)
        self.assertIs(is_steady([[1], []], [None, None]), True)

    def test_an_odd_ring(self):
        self.assertIs(is_steady(cases.THREE, [1, 2, 0]), True)
        # Each would rather have the one who follows it than whom it follows.
        self.assertIs(is_steady(cases.THREE, [2, 0, 1]), False)
        self.assertIs(is_steady(cases.THREE_BACK, [2, 0, 1]), True)
        self.assertIs(is_steady(cases.THREE_BACK, [1, 2, 0]), False)
        self.assertIs(is_steady(cases.THREE, [1, 0, None]), False)

    def test_a_circle_of_four(self):
        for half in ([1, 0, 3, 2], [3, 2, 1, 0], [1, 2, 3, 0]):
            self.assertIs(is_steady(cases.CIRCLE, half), True)
        self.assertIs(is_steady(cases.CIRCLE, [3, 0, 1, 2]), False)
        self.assertIs(is_steady(cases.CIRCLE, [1, 0, None, None]), False)

    def test_one_who_is_turned_wrongly(self):
        # Nobody but 0 would rather have who follows it, and there are no such two.
        lists = [[2, 1], [2, 0], [0, 1]]
        self.assertIs(is_steady(lists, [1, 2, 0]), False)
        self.assertIs(is_steady(lists, [2, None, 0]), True)

    def test_the_one_who_follows_counts_not_whom_one_follows(self):
        # 0 and 3 would each rather have the other than who follows them,
        # but not rather than whom they follow.
        lists = [[1, 3, 2], [2, 0], [0, 1], [4, 0, 5], [5, 3], [3, 4]]
        self.assertIs(is_steady(lists, [1, 2, 0, 4, 5, 3]), False)
        # Now 3 would rather have 5, who follows it, than 0.
        lists[3] = [4, 5, 0]
        self.assertIs(is_steady(lists, [1, 2, 0, 4, 5, 3]), True)

    def test_one_alone_and_one_in_a_ring(self):
        # 0 would rather have 3, who is alone, than 2, who follows it.
        lists = [[1, 3, 2], [2, 0], [0, 1], [0]]
        self.assertIs(is_steady(lists, [1, 2, 0, None]), False)
        lists[0] = [1, 2, 3]
        self.assertIs(is_steady(lists, [1, 2, 0, None]), True)
        # 3 names 0, but isn't named back.
        lists[0] = [1, 2]
        self.assertIs(is_steady(lists, [1, 2, 0, None]), True)

    def test_good_pairings_are_the_steady_ones_of_mates(self):
        for lists in cases.many_lists(16, 120, 6):
            rows = cases.plain_mutual(lists)
            good = cases.plain_good(lists)
            for pairing in cases.plain_pairings(rows):
                self.assertIs(is_steady(lists, pairing), pairing in good)

    def test_all_half_pairings_of_few(self):
        steady = rings = several = 0
        for lists in itertools.chain(cases.many_lists(17, 600, 5), [cases.CIRCLE, cases.SIX, cases.SEVEN]):
            rows = cases.plain_mutual(lists)
            found = []
            for half in cases.plain_halves(rows):
                told = is_steady(lists, half)
                self.assertIs(told, cases.plain_is_steady(rows, half))
                if told:
                    found.append(half)
            self.assertIn(half_pairing(lists), found)
            first = found[0]
            for half in found:
                self.assertEqual(cases.plain_rings(half), cases.plain_rings(first))
                self.assertEqual([o is None for o in half], [o is None for o in first])
            steady += len(found)
            several += len(found) > 1
            rings += cases.plain_rings(first) != []
        self.assertGreater(steady, 603)
        self.assertGreater(several, 5)
        self.assertGreater(rings, 20)

    def test_many_shuffled(self):
        chance = random.Random(18)
        for many in (59, 60):
            lists = cases.random_lists(chance, many, 1.0)
            for _ in range(20):
                people = list(range(many))
                chance.shuffle(people)
                half = [None] * many
                for place, person in enumerate(people):
                    half[person] = people[place - 1]
                self.assertIs(is_steady(lists, half), cases.plain_is_steady(lists, half))

    def test_the_half_pairing_stays(self):
        half = [1, 2, 0, None]
        is_steady(cases.FOUR, half)
        self.assertEqual(half, [1, 2, 0, None])

    def test_a_changed_half_pairing_is_read_anew(self):
        half = [1, 2, 0]
        self.assertIs(is_steady(cases.THREE, half), True)
        half.reverse()
        with self.assertRaises(BadPairing):
            is_steady(cases.THREE, half)
        half[:] = [2, 0, 1]
        self.assertIs(is_steady(cases.THREE, half), False)


class Refused(unittest.TestCase):
    ALL = [[1, 2, 3], [0, 2, 3], [0, 1, 3], [0, 1, 2]]

    def refuse(self, lists, half, at):
        with self.subTest(half=half):
            with self.assertRaises(BadPairing) as caught:
                is_steady(lists, half)
            self.assertEqual(caught.exception.at, at)
            self.assertIs(type(caught.exception.at), type(at))

    def test_no_list(self):
        for half in cases.NO_LIST + [(1, 0), "10", {0: 1, 1: 0}]:
            self.refuse([[1], [0]], half, None)
        self.refuse([], (), None)
        self.refuse([], None, None)

    def test_another_length(self):
        for half in ([], [None], [1], [1, 0, None], [None] * 3, [9, True, "x"]):
            self.refuse([[1], [0]], half, None)
        self.refuse([], [None], None)
        self.refuse([[]], [], None)

    def test_one_who_is_not_on_the_mutual_list(self):
        lists = [[1, 2], [0, 2], [0], []]
        self.refuse(lists, [3, 0, None, None], 0)
        self.refuse(lists, [1, 2, 0, None], 1)
        self.refuse(lists, [2, None, 1, None], 2)
        self.refuse(lists, [1, 0, None, 2], 3)
        self.refuse(lists, [0, None, None, None], 0)

    def test_one_who_is_nobody(self):
        for number in (-1, -2, 2, 60, 10 ** 30):
            self.refuse([[1], [0]], [number, 0], 0)
            self.refuse([[1], [0]], [1, number], 1)

    def test_one_that_is_no_number(self):
        for other in cases.NO_NUMBER:
            if other is not None:
                self.refuse([[1], [0]], [other, 0], 0)
                self.refuse([[1], [0]], [1, other], 1)

    def test_true_and_false(self):
        self.refuse(cases.THREE, [True, 2, 0], 0)
        self.refuse(cases.THREE, [1, 2, False], 2)
        self.refuse(cases.THREE, [None, None, False], 2)

    def test_one_whom_an_earlier_person_follows(self):
        self.refuse(self.ALL, [1, 0, 1, 0], 2)
        self.refuse(self.ALL, [2, 2, 3, 0], 1)
        self.refuse(self.ALL, [1, 2, 3, 2], 3)

    def test_one_who_follows_and_is_not_followed(self):
        self.refuse(self.ALL, [1, 2, 3, None], 0)
        self.refuse(self.ALL, [3, 2, 0, None], 1)
        self.refuse(self.ALL, [1, 0, 3, None], 2)

    def test_one_who_is_followed_and_follows_nobody(self):
        self.refuse(self.ALL, [None, 0, None, None], 0)
        self.refuse(self.ALL, [1, None, None, None], 0)
        self.refuse(self.ALL, [None, None, 1, None], 1)
        self.refuse(self.ALL, [None, 2, 1, 0], 0)
        self.refuse([[1], [0]], [1, None], 0)
        self.refuse([[1], [0]], [None, 0], 0)

    def test_whom_one_follows_comes_ahead_of_who_follows(self):
        # 0 is followed by nobody, but 3 follows one whom 1 follows.
        self.refuse(self.ALL, [1, 2, None, 2], 3)
        self.refuse(self.ALL, [1, None, None, 3], 3)
        self.refuse(self.ALL, [None, 0, None, "x"], 3)
        self.refuse(self.ALL, [1, None, None, True], 3)

    def test_the_first_one_counts(self):
        self.refuse(self.ALL, [1, 1, 9, 9], 1)
        self.refuse(self.ALL, [1, 9, 1, 9], 1)
        self.refuse(self.ALL, [1, 0, "x", 0], 2)

    def test_all_of_few(self):
        right = 0
        for many in (1, 2, 3, 4):
            for lists in cases.many_lists(19 + many, 10, many):
                rows = cases.plain_mutual(lists)
                others = [None, *range(len(lists))]
                for half in itertools.product(others, repeat=len(lists)):
                    at = cases.plain_wrong_half(rows, half)
                    if at is None:
                        right += 1
                        is_steady(lists, list(half))
                    else:
                        self.refuse(lists, list(half), at)
        self.assertGreater(right, 40)

    def test_sixty(self):
        lists = [[other for other in range(60) if other != person] for person in range(60)]
        half = [(person + 1) % 60 for person in range(60)]
        self.assertIs(is_steady(lists, half), False)
        half[59] = 1
        self.refuse(lists, half, 59)
        half[59] = None
        self.refuse(lists, half, 0)
        half[0] = None
        self.refuse(lists, half, 1)
