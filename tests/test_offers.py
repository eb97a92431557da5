import random
import unittest

from bunkmates.offers import offered
from tests import cases


def orders(seed):
    """Several ways to choose who offers next."""
    chance = random.Random(seed)
    return [lambda free: free[0], lambda free: free[-1], chance.choice, chance.choice]


class Offered(unittest.TestCase):
    def test_nobody(self):
        self.assertEqual(offered([]), [])

    def test_one_person(self):
        self.assertEqual(offered([[]]), [[]])

    def test_two(self):
        self.assertEqual(offered([[1], [0]]), [[1], [0]])
        self.assertEqual(offered([[1], []]), [[], []])

    def test_three(self):
        self.assertEqual(offered([[1, 2], [2, 0], [0, 1]]), [[1, 2], [2, 0], [0, 1]])
        self.assertEqual(offered([[1, 2], [0, 2], [0, 1]]), [[1], [0], []])

    def test_six(self):
        self.assertEqual(offered(cases.SIX), cases.SIX_OFFERED)

    def test_four_without_a_good_pairing(self):
        self.assertEqual(offered(cases.FOUR), cases.FOUR_OFFERED)

    def test_a_circle_of_four(self):
        self.assertEqual(offered(cases.CIRCLE), cases.CIRCLE)

    def test_only_mutual_lists_count(self):
        # 0 and 1 both want 2 the most, who names neither.
        lists = [[2, 1], [2, 0, 3], [3], [1, 2]]
        self.assertEqual(offered(lists), [[1], [0], [3], [2]])

    def test_the_first_one_refused_offers_on(self):
        self.assertEqual(offered([[2, 1], [2, 0], [1, 0]]), [[], [2], [1]])
        self.assertEqual(offered([[2, 3], [2], [1, 0], [0]]), [[3], [2], [1], [0]])

    def test_kinds(self):
        told = offered(cases.SIX)
        self.assertIs(type(told), list)
        for row in told:
            self.assertIs(type(row), list)
            for other in row:
                self.assertIs(type(other), int)


class Tables(unittest.TestCase):
    def hold(self, lists):
        """What is promised of each table behind all offers."""
        told = offered(lists)
        rows = cases.plain_mutual(lists)
        self.assertEqual(len(told), len(rows))
        for person, row in enumerate(told):
            self.assertEqual(row, [other for other in rows[person] if other in row])
            for other in row:
                self.assertIn(person, told[other])
                best = row[0] == other
                worst = told[other][-1] == person
                self.assertEqual(best, worst)
        return told

    def test_in_other_orders(self):
        empty = 0
        for turn, lists in enumerate(cases.many_lists(6, 300, 11)):
            told = self.hold(lists)
            for choose in orders(turn):
                self.assertEqual(cases.plain_offered(lists, choose), told)
            self.assertEqual(offered(lists), told)
            rows = cases.plain_mutual(lists)
            empty += any(rows[person] and not told[person] for person in range(len(lists)))
        self.assertGreater(empty, 20)

    def test_sixty_in_other_orders(self):
        for likely in (0.2, 0.7, 1.0):
            for many in (59, 60):
                lists = cases.random_lists(random.Random(many), many, likely)
                told = self.hold(lists)
                for choose in orders(many):
                    self.assertEqual(cases.plain_offered(lists, choose), told)

    def test_sixty_who_all_think_alike(self):
        lists = [[other for other in range(60) if other != person] for person in range(60)]
        told = self.hold(lists)
        self.assertEqual(told, [[person + 1 - 2 * (person % 2)] for person in range(60)])

    def test_against_all_good_pairings(self):
        left_alone = gone = several = 0
        for lists in cases.many_lists(7, 500, 7):
            told = offered(lists)
            rows = cases.plain_mutual(lists)
            good = cases.plain_good(lists)
            several += len(good) > 1
            for pairing in good:
                for person, mate in enumerate(pairing):
                    self.assertEqual(mate is None, told[person] == [])
                    if mate is not None:
                        self.assertIn(mate, told[person])
                    left_alone += mate is None and rows[person] != []
                    gone += len(told[person]) < len(rows[person])
        self.assertGreater(left_alone, 50)
        self.assertGreater(gone, 500)
        self.assertGreater(several, 5)
