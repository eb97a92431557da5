import random
import unittest

from bunkmates.errors import BadPairing
from bunkmates.pairings import is_good, spoilers
from tests import cases


class Spoilers(unittest.TestCase):
    def hold(self, lists, pairing, told):
        self.assertEqual(spoilers(lists, pairing), told)
        self.assertIs(is_good(lists, pairing), told == [])

    def test_nobody(self):
        self.hold([], [], [])

    def test_one_person(self):
        self.hold([[]], [None], [])

    def test_two(self):
        self.hold([[1], [0]], [1, 0], [])
        self.hold([[1], [0]], [None, None], [(0, 1)])
        self.hold([[1], []], [None, None], [])
        self.hold([[], [0]], [None, None], [])

    def test_a_good_one(self):
        self.hold(cases.SIX, [5, 2, 1, 4, 3, 0], [])
        self.hold(cases.CIRCLE, [1, 0, 3, 2], [])
        self.hold(cases.CIRCLE, [3, 2, 1, 0], [])

    def test_some_spoilers(self):
        self.hold(cases.SIX, [5, 3, 4, 1, 2, 0], [(1, 4)])
        self.hold(cases.SIX, [3, 5, 4, 0, 2, 1], [(3, 4), (3, 5)])
        self.hold(cases.SIX, [1, 0, 3, 2, 5, 4], [(0, 3), (1, 4), (3, 4)])

    def test_less_one_first_and_rising(self):
        lists = [[3, 2, 1], [3, 2, 0], [1, 0, 3], [0, 1, 2]]
        self.hold(lists, [None] * 4, [(0, 1), (0, 2), (0, 3), (1, 2), (1, 3), (2, 3)])

    def test_one_who_would_rather_not(self):
        # 0 would rather have 1 than its mate, 1 has its best one already.
        self.hold([[1, 2], [3, 0], [0], [1]], [2, 3, 0, 1], [])

    def test_a_mate_is_better_than_nobody(self):
        self.hold([[1, 2], [0], [0]], [2, None, 0], [(0, 1)])
        self.hold([[2, 1], [0], [0]], [2, None, 0], [])
        self.hold([[2, 1], [0], [0]], [None, None, None], [(0, 1), (0, 2)])

    def test_an_odd_number(self):
        three = [[1, 2], [2, 0], [0, 1]]
        self.hold(three, [1, 0, None], [(1, 2)])
        self.hold(three, [2, None, 0], [(0, 1)])
        self.hold(three, [None, 2, 1], [(0, 2)])

    def test_only_mutual_lists_count(self):
        # 0 would rather have 1, who doesn't name it back.
        self.hold([[1, 2], [2], [0]], [2, None, 0], [])
        self.hold([[1, 2, 3], [3], [0, 3], [0, 1, 2]], [2, 3, 0, 1], [])
        self.hold([[3, 2], [3, 0], [0], [0, 1]], [2, 3, 0, 1], [(0, 3)])

    def test_four_without_a_good_one(self):
        for pairing in cases.plain_pairings(cases.FOUR):
            self.assertIs(is_good(cases.FOUR, pairing), False)

    def test_all_pairings_of_few(self):
        good = 0
        for lists in cases.many_lists(4, 150, 6):
            rows = cases.plain_mutual(lists)
            for pairing in cases.plain_pairings(rows):
                told = cases.plain_spoilers(rows, pairing)
                self.hold(lists, pairing, told)
                self.hold(lists, pairing, told)
                good += told == []
        self.assertGreater(good, 100)

    def test_sixty(self):
        lists = [[other for other in range(60) if other != person] for person in range(60)]
        pairing = [person + 1 - 2 * (person % 2) for person in range(60)]
        self.hold(lists, pairing, [])
        self.hold(lists, [None] * 60, [(a, b) for a in range(60) for b in range(a + 1, 60)])
        lists = cases.random_lists(random.Random(5), 60, 1.0)
        self.hold(lists, pairing, cases.plain_spoilers(lists, pairing))
        self.assertNotEqual(spoilers(lists, pairing), [])

    def test_kinds(self):
        told = spoilers(cases.FOUR, [None] * 4)
        self.assertIs(type(told), list)
        for pair in told:
            self.assertIs(type(pair), tuple)
            self.assertEqual([type(person) for person in pair], [int, int])

    def test_the_pairing_stays(self):
        pairing = [3, 5, 4, 0, 2, 1]
        spoilers(cases.SIX, pairing)
        is_good(cases.SIX, pairing)
        self.assertEqual(pairing, [3, 5, 4, 0, 2, 1])

    def test_a_changed_pairing_is_read_anew(self):
        pairing = [1, 0]
        self.assertIs(is_good([[1], [0]], pairing), True)
        pairing[0] = None
        pairing[1] = None
        self.assertIs(is_good([[1], [0]], pairing), False)


class Refused(unittest.TestCase):
    def refuse(self, lists, pairing, at):
        for ask in (spoilers, is_good):
            with self.subTest(pairing=pairing):
                with self.assertRaises(BadPairing) as caught:
                    ask(lists, pairing)
                self.assertEqual(caught.exception.at, at)
                self.assertIs(type(caught.exception.at), type(at))

    def test_no_list(self):
        for pairing in cases.NO_LIST + [(1, 0), "10", {0: 1, 1: 0}]:
            self.refuse([[1], [0]], pairing, None)
        self.refuse([], (), None)
        self.refuse([], None, None)

    def test_another_length(self):
        for pairing in ([], [None], [1], [1, 0, None], [None] * 3, [1, 0, 2]):
            self.refuse([[1], [0]], pairing, None)
        self.refuse([], [None], None)
        self.refuse([[]], [], None)
        self.refuse([[]], [True, "x"], None)

    def test_a_mate_who_is_not_on_the_mutual_list(self):
        lists = [[1, 2], [0, 2], [0], []]
        self.refuse(lists, [3, None, None, 0], 0)
        self.refuse(lists, [None, 2, 1, None], 1)
        self.refuse(lists, [2, 1, 0, None], 1)
        self.refuse(lists, [1, 0, None, 3], 3)
        self.refuse(lists, [2, None, 0, 2], 3)

    def test_a_mate_who_is_nobody(self):
        for number in (-1, -2, 2, 60, 10 ** 30):
            self.refuse([[1], [0]], [number, 0], 0)
            self.refuse([[1], [0], []], [1, 0, number - 3 if number < 0 else number + 1], 2)
        # -1 would reach the last one, whose mate 0 is.
        self.refuse([[2, 1], [0], [0]], [-1, None, 0], 0)

    def test_a_mate_that_is_no_number(self):
        for mate in cases.NO_NUMBER:
            if mate is not None:
                self.refuse([[1], [0]], [mate, 0], 0)
                self.refuse([[1], [0], []], [1, 0, mate], 2)

    def test_true_and_false(self):
        self.refuse([[1], [0]], [True, 0], 0)
        self.refuse([[1], [0], []], [1, 0, False], 2)
        # False is no person, so the mate of 0 does not have 0 as its mate.
        self.refuse([[1], [0]], [1, False], 0)
        self.refuse([[1], [0]], [None, False], 1)

    def test_a_mate_who_has_another_or_none(self):
        three = [[1, 2], [2, 0], [0, 1]]
        self.refuse(three, [1, 2, 0], 0)
        self.refuse(three, [1, 2, 1], 0)
        self.refuse(three, [1, None, None], 0)
        self.refuse(three, [None, 0, None], 1)
        self.refuse(three, [1, 0, 0], 2)
        self.refuse(three, [None, 2, 0], 1)
        self.refuse(three, [2, 0, 0], 1)

    def test_the_first_one_counts(self):
        lists = [[1, 2, 3], [0, 2, 3], [0, 1, 3], [0, 1, 2]]
        self.refuse(lists, [1, 0, 2, 9], 2)
        self.refuse(lists, [1, 0, 0, "x"], 2)
        self.refuse(lists, [1, 0, None, "x"], 3)
        self.refuse(lists, [2, 2, 0, None], 1)

    def test_all_wrong_ones_of_three(self):
        lists = [[1, 2], [2, 0], [0]]
        rows = cases.plain_mutual(lists)
        right = cases.plain_pairings(rows)
        mates = [None, 0, 1, 2]
        for a in mates:
            for b in mates:
                for c in mates:
                    pairing = [a, b, c]
                    wrong = [
                        person for person in range(3)
                        if pairing[person] is not None
                        and (pairing[person] not in rows[person]
                             or pairing[pairing[person]] != person)
                    ]
                    self.assertEqual(wrong == [], pairing in right)
                    if wrong:
                        self.refuse(lists, pairing, wrong[0])
                    else:
                        is_good(lists, pairing)

    def test_sixty(self):
        lists = [[other for other in range(60) if other != person] for person in range(60)]
        pairing = [person + 1 - 2 * (person % 2) for person in range(60)]
        pairing[59] = None
        self.refuse(lists, pairing, 58)
        pairing[58] = None
        self.assertEqual(spoilers(lists, pairing), [(58, 59)])
