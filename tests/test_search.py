import itertools
import random
import unittest

from bunkmates.errors import BunkError, TooMany
from bunkmates.search import all_good
from tests import cases


def circles(many, size):
    """Many circles of that size side by side, each with two good pairings."""
    return [
        [first + (place + 1) % size, first + (place + size - 1) % size]
        for first in range(0, many * size, size) for place in range(size)
    ]


class Small(unittest.TestCase):
    def test_nobody(self):
        self.assertEqual(all_good([]), [[]])

    def test_one_person(self):
        self.assertEqual(all_good([[]]), [[None]])

    def test_two(self):
        self.assertEqual(all_good([[1], [0]]), [[1, 0]])
        self.assertEqual(all_good([[1], []]), [[None, None]])

    def test_three(self):
        self.assertEqual(all_good(cases.THREE), [])
        self.assertEqual(all_good([[1, 2], [0, 2], [0, 1]]), [[1, 0, None]])

    def test_none(self):
        self.assertEqual(all_good(cases.FOUR), [])
        self.assertEqual(all_good(cases.TWICE), [])
        self.assertEqual(all_good(cases.SEVEN), [])

    def test_one(self):
        self.assertEqual(all_good(cases.SIX), [[5, 2, 1, 4, 3, 0]])

    def test_two_by_the_first_persons_list(self):
        self.assertEqual(all_good(cases.CIRCLE), [[1, 0, 3, 2], [3, 2, 1, 0]])
        # The same circle the other way: now 0 would rather have 3.
        back = [[3, 1], [0, 2], [1, 3], [2, 0]]
        self.assertEqual(all_good(back), [[3, 2, 1, 0], [1, 0, 3, 2]])

    def test_the_first_person_at_whom_they_differ_decides(self):
        # 0 and 1 are mates in all, 2 would rather have 5 than 3.
        lists = [[1], [0], [5, 3], [2, 4], [3, 5], [4, 2]]
        self.assertEqual(all_good(lists), [[1, 0, 5, 4, 3, 2], [1, 0, 3, 2, 5, 4]])

    def test_two_circles(self):
        self.assertEqual(all_good(circles(2, 4)), [
            [1, 0, 3, 2, 5, 4, 7, 6],
            [1, 0, 3, 2, 7, 6, 5, 4],
            [3, 2, 1, 0, 5, 4, 7, 6],
            [3, 2, 1, 0, 7, 6, 5, 4],
        ])

    def test_kinds(self):
        told = all_good([[1, 2], [0, 2], [0, 1]])
        self.assertIs(type(told), list)
        self.assertIs(type(told[0]), list)
        self.assertEqual([type(mate) for mate in told[0]], [int, int, type(None)])


class Drawn(unittest.TestCase):
    def test_against_all_pairings(self):
        several = none = 0
        for lists in cases.many_lists(41, 900, 6):
            told = all_good(lists)
            self.assertEqual(told, cases.good_in_order(lists))
            self.assertEqual(all_good(lists), told)
            several += len(told) > 1
            none += told == []
        self.assertGreater(several, 5)
        self.assertGreater(none, 40)

    def test_circles_with_people_renumbered(self):
        chance = random.Random(42)
        for many, size in itertools.chain([(1, 6), (2, 4), (1, 8), (1, 4)] * 6):
            lists = circles(many, size)
            names = list(range(len(lists)))
            chance.shuffle(names)
            renamed = [None] * len(lists)
            for person, row in enumerate(lists):
                renamed[names[person]] = [names[other] for other in row]
            told = all_good(renamed)
            self.assertEqual(len(told), 2 ** many)
            self.assertEqual(told, cases.good_in_order(renamed))

    def test_seven_to_ten(self):
        for turn, likely in enumerate((0.4, 0.7, 1.0)):
            for many in (7, 8, 9, 10):
                lists = cases.random_lists(random.Random(turn), many, likely)
                self.assertEqual(all_good(lists), cases.good_in_order(lists))


class Refused(unittest.TestCase):
    def test_more_than_ten(self):
        for many in (11, 12, 30, 59, 60):
            for lists in (
                [[] for _ in range(many)],
                cases.random_lists(random.Random(many), many, 1.0),
            ):
                with self.assertRaises(TooMany) as caught:
                    all_good(lists)
                self.assertIsInstance(caught.exception, BunkError)

    def test_ten_are_not_too_many(self):
        self.assertEqual(all_good([[] for _ in range(10)]), [[None] * 10])
        lists = [[other for other in range(10) if other != person] for person in range(10)]
        self.assertEqual(all_good(lists), [[1, 0, 3, 2, 5, 4, 7, 6, 9, 8]])
        self.assertEqual(all_good(circles(1, 10)), [
            [1, 0, 3, 2, 5, 4, 7, 6, 9, 8],
            [9, 2, 1, 4, 3, 6, 5, 8, 7, 0],
        ])
