import copy
import random
import unittest

from bunkmates.errors import BadLists
from bunkmates.lists import mutual
from bunkmates.offers import offered
from bunkmates.pairings import is_good, spoilers
from tests import cases

# Each function that takes lists; the other argument is right for no lists at all,
# wrong for any, wrong in its kind.
TAKERS = {
    "mutual": mutual,
    "offered": offered,
    "spoilers": lambda lists: spoilers(lists, []),
    "spoilers, wrong mates": lambda lists: spoilers(lists, [True, 99, "x"]),
    "spoilers, no pairing": lambda lists: spoilers(lists, None),
    "is_good": lambda lists: is_good(lists, []),
    "is_good, wrong mates": lambda lists: is_good(lists, [True, 99, "x"]),
    "is_good, no pairing": lambda lists: is_good(lists, (None, None)),
}


class Refused(unittest.TestCase):
    def refuse(self, lists, at):
        for name, take in TAKERS.items():
            with self.subTest(name=name, lists=lists):
                with self.assertRaises(BadLists) as caught:
                    take(lists)
                self.assertEqual(caught.exception.at, at)
                self.assertIs(type(caught.exception.at), type(at))

    def test_no_list_at_all(self):
        for lists in cases.NO_LIST + [([], []), ([1], [0])]:
            self.refuse(lists, None)

    def test_more_than_sixty(self):
        self.refuse([[] for _ in range(61)], None)
        self.refuse([[] for _ in range(200)], None)
        self.refuse([[60] + [0] * 3] + [None] * 60, None)

    def test_a_row_that_is_no_list(self):
        for row in cases.NO_LIST:
            self.refuse([row], 0)
            self.refuse([[1, 2], [2], row], 2)
            self.refuse([[1, 2], row, row], 1)

    def test_an_item_that_is_no_number(self):
        for item in cases.NO_NUMBER:
            self.refuse([[2, item], [0], [0]], 0)
            self.refuse([[2, 1], [2, item], [0]], 1)
            self.refuse([[2, 1], [2, 0], [item]], 2)

    def test_true_and_false_in_place_of_a_person(self):
        self.refuse([[True], [0]], 0)
        self.refuse([[1], [False]], 1)
        self.refuse([[], [], [False, True]], 2)

    def test_a_number_that_is_no_person(self):
        for number in (-1, -2, -3, 3, 4, 60, 10 ** 30, -(10 ** 30)):
            self.refuse([[number], [], []], 0)
            self.refuse([[1], [0, number], []], 1)
            self.refuse([[1], [0], [1, 0, number]], 2)

    def test_beyond_the_last_of_few_and_of_sixty(self):
        self.refuse([[0]], 0)
        self.refuse([[1]], 0)
        lists = [[] for _ in range(60)]
        lists[59] = [58, 60]
        self.refuse(lists, 59)

    def test_the_person_itself(self):
        self.refuse([[0, 1], [0]], 0)
        self.refuse([[1], [0, 1]], 1)
        self.refuse([[1], [0], [0, 1, 2]], 2)

    def test_one_person_twice(self):
        self.refuse([[1, 1], [0]], 0)
        self.refuse([[1], [0, 2, 0], []], 1)
        self.refuse([[1], [0], [0, 1, 0]], 2)

    def test_the_first_one_counts(self):
        self.refuse([[1], [1], [2]], 1)
        self.refuse([[1], "0", [9]], 1)
        self.refuse([[1], [0, 0], None], 1)
        self.refuse([[1], [0], None, [9], [4]], 2)

    def test_refused_lists_stay_as_they_were(self):
        for lists, at in (([[1, 2], [0, 0], []], 1), ([[1], [0], [True]], 2)):
            before = repr(lists)
            self.refuse(lists, at)
            self.assertEqual(repr(lists), before)


class Mutual(unittest.TestCase):
    def test_nobody(self):
        self.assertEqual(mutual([]), [])

    def test_one_person(self):
        self.assertEqual(mutual([[]]), [[]])

    def test_two(self):
        self.assertEqual(mutual([[1], [0]]), [[1], [0]])
        self.assertEqual(mutual([[1], []]), [[], []])
        self.assertEqual(mutual([[], [0]]), [[], []])

    def test_order_is_kept_and_who_names_not_back_is_left_out(self):
        lists = [[3, 1, 4, 2], [2, 0], [4, 3, 1], [2, 0], [3]]
        self.assertEqual(mutual(lists), [[3, 1], [2, 0], [3, 1], [2, 0], []])

    def test_all_name_all(self):
        self.assertEqual(mutual(cases.SIX), cases.SIX)

    def test_sixty(self):
        lists = [[other for other in range(59, -1, -1) if other != person] for person in range(60)]
        self.assertEqual(mutual(lists), lists)
        lists[7] = []
        told = mutual(lists)
        self.assertEqual(told[7], [])
        self.assertEqual(told[59], [other for other in range(58, -1, -1) if other != 7])

    def test_many_lists(self):
        for lists in cases.many_lists(1, 300, 12):
            told = mutual(lists)
            self.assertEqual(told, cases.plain_mutual(lists))
            self.assertEqual(mutual(lists), told)
        for likely in (0.1, 0.5, 0.9):
            lists = cases.random_lists(random.Random(2), 60, likely)
            self.assertEqual(mutual(lists), cases.plain_mutual(lists))

    def test_kinds(self):
        told = mutual(cases.SIX)
        self.assertIs(type(told), list)
        for row in told:
            self.assertIs(type(row), list)
            for other in row:
                self.assertIs(type(other), int)

    def test_rows_handed_in_may_be_one_list(self):
        row = [2]
        lists = [row, row, [1, 0]]
        told = mutual(lists)
        told[0].append(9)
        self.assertEqual(told, [[2, 9], [2], [1, 0]])
        self.assertEqual(lists, [[2], [2], [1, 0]])


class Own(unittest.TestCase):
    """What is handed in is neither changed nor kept, what is told is the asker's own."""

    LISTS = [[1, 2], [2, 0], [0, 1, 3], [2]]

    def spoil(self, told):
        for row in told:
            row.append(99)
            row.reverse()
        told.append([7])

    def test_told_rows_are_the_askers(self):
        for tell in (mutual, offered):
            lists = copy.deepcopy(self.LISTS)
            first = tell(lists)
            kept = copy.deepcopy(first)
            self.spoil(first)
            self.assertEqual(lists, self.LISTS)
            self.assertEqual(tell(lists), kept)
            self.assertEqual(tell(copy.deepcopy(self.LISTS)), kept)

    def test_told_spoilers_are_the_askers(self):
        first = spoilers(self.LISTS, [None] * 4)
        kept = list(first)
        first.clear()
        self.assertEqual(spoilers(self.LISTS, [None] * 4), kept)

    def test_lists_handed_in_stay(self):
        for lists in list(cases.many_lists(3, 100, 9)) + [cases.SIX, cases.FOUR]:
            before = copy.deepcopy(lists)
            pairing = [None] * len(lists)
            mutual(lists)
            offered(lists)
            spoilers(lists, pairing)
            is_good(lists, pairing)
            self.assertEqual(lists, before)
            self.assertEqual(pairing, [None] * len(lists))

    def test_changed_lists_are_read_anew(self):
        lists = [[1], [0]]
        self.assertEqual(mutual(lists), [[1], [0]])
        self.assertEqual(offered(lists), [[1], [0]])
        self.assertEqual(spoilers(lists, [None, None]), [(0, 1)])
        self.assertIs(is_good(lists, [None, None]), False)
        lists[0].clear()
        self.assertEqual(mutual(lists), [[], []])
        self.assertEqual(offered(lists), [[], []])
        self.assertEqual(spoilers(lists, [None, None]), [])
        self.assertIs(is_good(lists, [None, None]), True)
        lists[0].append(1)
        lists.append([])
        self.assertEqual(mutual(lists), [[1], [0], []])
        self.assertEqual(offered(lists), [[1], [0], []])

    def test_a_told_table_is_not_changed_later(self):
        for tell in (mutual, offered):
            lists = [[1], [0]]
            told = tell(lists)
            lists[0].clear()
            lists[1].append(7)
            self.assertEqual(told, [[1], [0]])
