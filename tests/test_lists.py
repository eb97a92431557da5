import copy
import random
import unittest
from functools import partial

from bunkmates.errors import BadLists, TooMany
from bunkmates.halves import half_pairing, is_steady
from bunkmates.lists import mutual
from bunkmates.offers import offered
from bunkmates.pairings import is_good, spoilers
from bunkmates.rings import last_rows, rings_out
from bunkmates.search import all_good
from bunkmates.told import alone, odd_rings, paired
from tests import cases

# The functions that take lists alone, and those that take a pairing or a half pairing, too.
ALONE = [
    mutual, offered, rings_out, last_rows, half_pairing, paired, odd_rings, alone, all_good,
]
BESIDE = [spoilers, is_good, is_steady]


def ask_all(lists, beside):
    """Each function with what it tells of the lists, and of what stands beside them."""
    for tell in ALONE:
        yield tell.__name__, partial(tell, lists)
    for tell in BESIDE:
        for other in beside:
            yield f"{tell.__name__}, {other}", partial(tell, lists, other)


class Refused(unittest.TestCase):
    def refuse(self, lists, at):
        # What stands beside is right for nobody at all, of a wrong length or with wrong mates,
        # wrong in its kind.
        beside = [[], [True, 99, "x"], [None] * 61, None, (None, None)]
        for name, ask in ask_all(lists, beside):
            with self.subTest(name=name, lists=lists):
                with self.assertRaises(BadLists) as caught:
                    ask()
                self.assertEqual(caught.exception.at, at)
                self.assertIs(type(caught.exception.at), type(at))

    def test_no_list_at_all(self):
        for lists in cases.NO_LIST + [([], []), ([1], [0])]:
            self.refuse(lists, None)

    def test_more_than_sixty(self):
        self.refuse([[] for _ in range(61)], None)
        self.refuse([[] for _ in range(200)], None)
        self.refuse([[60] + [0] * 3] + [None] * 60, None)

    def test_wrong_lists_of_more_than_ten(self):
        for many in (11, 12, 60):
            lists = [[(person + 1) % many] for person in range(many)]
            lists[many - 1] = [True]
            self.refuse(lists, many - 1)
            lists[3] = None
            self.refuse(lists, 3)

    def test_a_row_that_is_no_list(self):
        for row in cases.NO_LIST:
            self.refuse([row], 0)
            self.refuse([[1, 2], [2], row], 2)
            self.refuse([[1, 2], row, row], 1)

    def test_an_item_that_is_no_number(self):
        for item in cases.NO_NUMBER:
            self.refuse([[2, item], [0], [0]], 0)
            self.refuse([[2, 1], [2, item], [0]], 1)
            self.refuse([[2, 1], [2, 0], [item]], 2)

    def test_true_and_false_in_place_of_a_person(self):
        self.refuse([[True], [0]], 0)
        self.refuse([[1], [False]], 1)
        self.refuse([[], [], [False, True]], 2)

    def test_a_number_that_is_no_person(self):
        for number in (-1, -2, -3, 3, 4, 60, 10 ** 30, -(10 ** 30)):
            self.refuse([[number], [], []], 0)
            self.refuse([[1], [0, number], []], 1)
            self.refuse([[1], [0], [1, 0, number]], 2)

    def test_beyond_the_last_of_few_and_of_sixty(self):
        self.refuse([[0]], 0)
        self.refuse([[1]], 0)
        lists = [[] for _ in range(60)]
        lists[59] = [58, 60]
        self.refuse(lists, 59)

    def test_the_person_itself(self):
        self.refuse([[0, 1], [0]], 0)
        self.refuse([[1], [0, 1]], 1)
        self.refuse([[1], [0], [0, 1, 2]], 2)

    def test_one_person_twice(self):
        self.refuse([[1, 1], [0]], 0)
        self.refuse([[1], [0, 2, 0], []], 1)
        self.refuse([[1], [0], [0, 1, 0]], 2)

    def test_the_first_one_counts(self):
        self.refuse([[1], [1], [2]], 1)
        self.refuse([[1], "0", [9]], 1)
        self.refuse([[1], [0, 0], None], 1)
        self.refuse([[1], [0], None, [9], [4]], 2)

    def test_refused_lists_stay_as_they_were(self):
        for lists, at in (([[1, 2], [0, 0], []], 1), ([[1], [0], [True]], 2)):
            before = repr(lists)
            self.refuse(lists, at)
            self.assertEqual(repr(lists), before)


class Mutual(unittest.TestCase):
    def test_nobody(self):
        self.assertEqual(mutual([]), [])

    def test_one_person(self):
        self.assertEqual(mutual([[]]), [[]])

    def test_two(self):
        self.assertEqual(mutual([[1], [0]]), [[1], [0]])
        self.assertEqual(mutual([[1], []]), [[], []])
        self.assertEqual(mutual([[], [0]]), [[], []])

    def test_order_is_kept_and_who_names_not_back_is_left_out(self):
        lists = [[3, 1, 4, 2], [2, 0], [4, 3, 1], [2, 0], [3]]
        self.assertEqual(mutual(lists), [[3, 1], [2, 0], [3, 1], [2, 0], []])

    def test_all_name_all(self):
        self.assertEqual(mutual(cases.SIX), cases.SIX)

    def test_sixty(self):
        lists = [[other for other in range(59, -1, -1) if other != person] for person in range(60)]
        self.assertEqual(mutual(lists), lists)
        lists[7] = []
        told = mutual(lists)
        self.assertEqual(told[7], [])
        self.assertEqual(told[59], [other for other in range(58, -1, -1) if other != 7])

    def test_many_lists(self):
        for lists in cases.many_lists(1, 300, 12):
            told = mutual(lists)
            self.assertEqual(told, cases.plain_mutual(lists))
            self.assertEqual(mutual(lists), told)
        for likely in (0.1, 0.5, 0.9):
            lists = cases.random_lists(random.Random(2), 60, likely)
            self.assertEqual(mutual(lists), cases.plain_mutual(lists))

    def test_kinds(self):
        told = mutual(cases.SIX)
        self.assertIs(type(told), list)
        for row in told:
            self.assertIs(type(row), list)
            for other in row:
                self.assertIs(type(other), int)

    def test_rows_handed_in_may_be_one_list(self):
        row = [2]
        lists = [row, row, [1, 0]]
        told = mutual(lists)
        told[0].append(9)
        self.assertEqual(told, [[2, 9], [2], [1, 0]])
        self.assertEqual(lists, [[2], [2], [1, 0]])


class Own(unittest.TestCase):
    """What is handed in is neither changed nor kept, what is told is the asker's own."""

    # In these a ring goes, a ring stays, somebody is alone, somebody has several mates to choose.
    LISTS = [
        [[1, 2], [2, 0], [0, 1, 3], [2]], cases.SIX, cases.FOUR, cases.CIRCLE, cases.SEVEN,
        [[1], [0], []],
    ]

    def lists_in(self, told):
        """All lists within what is told, itself included."""
        found = [told] if isinstance(told, list) else []
        if isinstance(told, (list, tuple)):
            for each in told:
                found += self.lists_in(each)
        return found

    def spoil(self, told):
        for each in self.lists_in(told):
            each.reverse()
            each.append(99)
            each[0] = "spoilt"

    def test_what_is_told_is_the_askers(self):
        for lists in self.LISTS:
            beside = [[None] * len(lists)]
            before = copy.deepcopy(lists)
            for name, ask in ask_all(lists, beside):
                with self.subTest(name=name, lists=lists):
                    told = ask()
                    kept = copy.deepcopy(told)
                    self.spoil(told)
                    self.assertEqual(lists, before)
                    self.assertEqual(beside, [[None] * len(lists)])
                    self.assertEqual(ask(), kept)

    def test_no_list_is_told_twice(self):
        # Who changes one told row must not change another one, nor one told earlier.
        for lists in self.LISTS:
            for name, ask in ask_all(lists, [[None] * len(lists)]):
                with self.subTest(name=name, lists=lists):
                    parts = self.lists_in([ask(), ask(), lists])
                    self.assertEqual(len(parts), len({id(part) for part in parts}))

    def test_what_is_handed_in_stays(self):
        for lists in list(cases.many_lists(3, 100, 9)) + self.LISTS:
            before = copy.deepcopy(lists)
            pairing = [None] * len(lists)
            for _, ask in ask_all(lists, [pairing]):
                ask()
                self.assertEqual(lists, before)
                self.assertEqual(pairing, [None] * len(lists))

    def test_changed_lists_are_read_anew(self):
        for first, then in ((cases.SIX, cases.TWICE), (cases.FOUR, cases.CIRCLE)):
            lists = copy.deepcopy(first)
            for name, ask in ask_all(lists, [[None] * len(lists)]):
                lists[:] = copy.deepcopy(first)
                ask()
                for row, other in zip(lists, then):
                    row[:] = other
                with self.subTest(name=name):
                    fresh = dict(ask_all(copy.deepcopy(then), [[None] * len(then)]))
                    self.assertEqual(ask(), fresh[name]())

    def test_what_is_told_is_not_changed_later(self):
        for first in self.LISTS:
            lists = copy.deepcopy(first)
            for name, ask in ask_all(lists, [[None] * len(lists)]):
                lists[:] = copy.deepcopy(first)
                told = ask()
                kept = copy.deepcopy(told)
                for row in lists:
                    row.clear()
                ask()
                lists[0].append(7)
                with self.subTest(name=name):
                    self.assertEqual(told, kept)


class Limits(unittest.TestCase):
    def test_as_many_as_may_be(self):
        for many in (59, 60):
            lists = [[other for other in range(many) if other != person] for person in range(many)]
            for name, ask in ask_all(lists, [[None] * many]):
                with self.subTest(name=name, many=many):
                    if name == "all_good":
                        self.assertRaises(TooMany, ask)
                    else:
                        ask()

    def test_all_think_alike(self):
        mates = [person + 1 - 2 * (person % 2) for person in range(60)]
        for many, told in ((60, mates), (59, mates[:58] + [None])):
            lists = [[other for other in range(many) if other != person] for person in range(many)]
            self.assertEqual(paired(lists), told)
            self.assertEqual(half_pairing(lists), told)
            self.assertEqual(alone(lists), [p for p, mate in enumerate(told) if mate is None])
            self.assertEqual(odd_rings(lists), [])
            self.assertEqual(rings_out(lists), [])
