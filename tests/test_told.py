import itertools
import unittest

from bunkmates.halves import half_pairing
from bunkmates.pairings import is_good
from bunkmates.told import alone, odd_rings, paired
from tests import cases


class Small(unittest.TestCase):
    def hold(self, lists, pairings, rings, people):
        """The pairing is one of those told, or None where none are."""
        self.assertIn(paired(lists), pairings or [None])
        self.assertEqual(odd_rings(lists), rings)
        self.assertEqual(alone(lists), people)

    def test_nobody(self):
        self.hold([], [[]], [], [])

    def test_one_person(self):
        self.hold([[]], [[None]], [], [0])

    def test_two(self):
        self.hold([[1], [0]], [[1, 0]], [], [])
        self.hold([[1], []], [[None, None]], [], [0, 1])
        self.hold([[], []], [[None, None]], [], [0, 1])

    def test_three_of_whom_one_is_alone(self):
        self.hold([[1, 2], [0, 2], [0, 1]], [[1, 0, None]], [], [2])
        self.hold([[2, 1], [0, 2], [0, 1]], [[2, None, 0]], [], [1])

    def test_an_odd_ring(self):
        self.hold(cases.THREE, [], [[0, 1, 2]], [])
        self.hold(cases.THREE_BACK, [], [[0, 2, 1]], [])

    def test_an_odd_ring_of_five(self):
        lists = [[(person + 2) % 5, (person + 3) % 5] for person in range(5)]
        self.hold(lists, [], [[0, 2, 4, 1, 3]], [])

    def test_an_odd_ring_and_one_alone(self):
        self.hold(cases.FOUR, [], [[0, 1, 2]], [3])

    def test_two_odd_rings(self):
        self.hold(cases.TWICE, [], [[0, 2, 4], [1, 5, 3]], [])

    def test_an_odd_ring_beside_mates(self):
        self.hold(cases.SEVEN, [], [[1, 3, 5]], [])

    def test_behind_a_ring(self):
        self.hold(cases.SIX, [[5, 2, 1, 4, 3, 0]], [], [])

    def test_one_of_several(self):
        self.hold(cases.CIRCLE, [[1, 0, 3, 2], [3, 2, 1, 0]], [], [])

    def test_several_alone_rising(self):
        self.hold([[3], [3], [3], [2, 1, 0]], [[None, None, 3, 2]], [], [0, 1])
        self.hold([[], [3], [], [1], []], [[None, 3, None, 1, None]], [], [0, 2, 4])

    def test_kinds(self):
        self.assertIs(type(paired(cases.SIX)), list)
        self.assertIs(type(alone(cases.FOUR)), list)
        self.assertEqual([type(person) for person in alone(cases.FOUR)], [int])
        rings = odd_rings(cases.TWICE)
        self.assertIs(type(rings), list)
        for ring in rings:
            self.assertIs(type(ring), list)
            self.assertEqual([type(person) for person in ring], [int] * 3)


class Drawn(unittest.TestCase):
    def test_against_all_pairings(self):
        none = left_alone = 0
        for lists in cases.many_lists(31, 900, 6):
            good = cases.plain_good(lists)
            pairing = paired(lists)
            people = alone(lists)
            if good:
                self.assertIn(pairing, good)
            else:
                self.assertIsNone(pairing)
                none += 1
            self.assertEqual(odd_rings(lists) == [], good != [])
            self.assertEqual(people, sorted(people))
            for each in good:
                self.assertEqual([p for p, mate in enumerate(each) if mate is None], people)
                left_alone += len(people)
        self.assertGreater(none, 40)
        self.assertGreater(left_alone, 200)

    def test_against_all_steady_half_pairings(self):
        rings = 0
        for lists in itertools.chain(cases.many_lists(32, 600, 5), [cases.SEVEN, cases.TWICE]):
            rows = cases.plain_mutual(lists)
            told = odd_rings(lists)
            people = alone(lists)
            for half in cases.plain_halves(rows):
                if cases.plain_is_steady(rows, half):
                    self.assertEqual(told, cases.plain_rings(half))
                    self.assertEqual(people, [p for p, other in enumerate(half) if other is None])
                    rings += len(told)
        self.assertGreater(rings, 20)

    def test_many(self):
        none = some = 0
        for lists in itertools.chain(cases.random_tables(33), cases.many_lists(34, 300, 12)):
            half = half_pairing(lists)
            pairing = paired(lists)
            self.assertEqual(odd_rings(lists), cases.plain_rings(half))
            self.assertEqual(alone(lists), [p for p, other in enumerate(half) if other is None])
            if pairing is None:
                none += 1
                self.assertNotEqual(odd_rings(lists), [])
            else:
                some += 1
                self.assertEqual(odd_rings(lists), [])
                self.assertIs(is_good(lists, pairing), True)
            self.assertEqual(paired(lists), pairing)
        self.assertGreater(none, 10)
        self.assertGreater(some, 10)
