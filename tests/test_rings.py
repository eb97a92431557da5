import unittest

from bunkmates.offers import offered
from bunkmates.rings import last_rows, rings_out
from tests import cases


def plain_out(rows, ring):
    """The rows behind the ring: who goes is read off the rows as they were ahead of it."""
    gone = []
    for place, (person, best) in enumerate(ring):
        ahead = ring[place - 1][0]
        row = rows[best]
        for other in row[row.index(ahead) + 1:]:
            gone += [(best, other), (other, best)]
    return [
        [other for other in row if (person, other) not in gone] for person, row in enumerate(rows)
    ]


class Small(unittest.TestCase):
    def hold(self, lists, told):
        self.assertEqual(rings_out(lists), told)
        self.assertEqual(last_rows(lists), told[-1][1] if told else offered(lists))

    def test_nobody(self):
        self.hold([], [])
        self.assertEqual(last_rows([]), [])

    def test_one_person(self):
        self.hold([[]], [])
        self.assertEqual(last_rows([[]]), [[]])

    def test_two(self):
        self.hold([[1], [0]], [])
        self.assertEqual(last_rows([[1], [0]]), [[1], [0]])
        self.hold([[1], []], [])
        self.assertEqual(last_rows([[1], []]), [[], []])

    def test_an_odd_ring_stays(self):
        for lists in (cases.THREE, cases.THREE_BACK):
            self.hold(lists, [])
            self.assertEqual(last_rows(lists), lists)

    def test_an_odd_ring_of_five_stays(self):
        lists = [[(person + 1) % 5, (person + 4) % 5] for person in range(5)]
        self.hold(lists, [])
        self.assertEqual(last_rows(lists), lists)

    def test_an_odd_ring_and_one_alone(self):
        self.hold(cases.FOUR, [])
        self.assertEqual(last_rows(cases.FOUR), cases.FOUR_OFFERED)

    def test_two_odd_rings_stay(self):
        self.hold(cases.TWICE, [])
        self.assertEqual(last_rows(cases.TWICE), [[2, 4], [5, 3], [4, 0], [1, 5], [0, 2], [3, 1]])

    def test_the_one_ring_of_six(self):
        # Behind it 4 keeps nobody but 3, 1 nobody but 2; 1 and 4 lead to it, but aren't in it.
        self.hold(cases.SIX, [([(2, 4), (3, 1)], [[5], [2], [1], [4], [3], [0]])])

    def test_a_circle_of_four(self):
        # It has two rings. Either one may go first, and leaves no other.
        self.assertIn(rings_out(cases.CIRCLE), [
            [([(0, 1), (2, 3)], [[3], [2], [1], [0]])],
            [([(1, 2), (3, 0)], [[1], [0], [3], [2]])],
        ])
        self.assertIn(last_rows(cases.CIRCLE), [[[3], [2], [1], [0]], [[1], [0], [3], [2]]])

    def test_rings_of_three_in_a_circle_of_six(self):
        # Three and three people go ahead of one another, but their best ones are other people.
        lists = [[(person + 1) % 6, (person + 5) % 6] for person in range(6)]
        self.assertIn(rings_out(lists), [
            [([(0, 1), (4, 5), (2, 3)], [[5], [2], [1], [4], [3], [0]])],
            [([(1, 2), (5, 0), (3, 4)], [[1], [0], [3], [2], [5], [4]])],
        ])

    def test_a_ring_beside_an_odd_one(self):
        self.assertEqual(offered(cases.SEVEN), cases.SEVEN_OFFERED)
        self.assertIn(rings_out(cases.SEVEN), [
            [([(0, 2), (4, 6)], [[6], [3, 5], [4], [5, 1], [2], [1, 3], [0]])],
            [([(2, 4), (6, 0)], [[2], [3, 5], [0], [5, 1], [6], [1, 3], [4]])],
        ])

    def test_only_mutual_lists_count(self):
        # Without those who don't name one back these are four in a circle.
        lists = [[4, 1, 3], [2, 4, 0], [3, 1, 4], [0, 2], []]
        self.assertIn(last_rows(lists), [[[3], [2], [1], [0], []], [[1], [0], [3], [2], []]])

    def test_kinds(self):
        told = rings_out(cases.SIX)
        self.assertIs(type(told), list)
        for pair in told:
            self.assertIs(type(pair), tuple)
            ring, rows = pair
            self.assertIs(type(ring), list)
            self.assertIs(type(rows), list)
            for each in ring:
                self.assertIs(type(each), tuple)
                self.assertEqual([type(person) for person in each], [int, int])
            for row in rows:
                self.assertIs(type(row), list)
                for other in row:
                    self.assertIs(type(other), int)
        for row in last_rows(cases.SIX):
            self.assertIs(type(row), list)


class Drawn(unittest.TestCase):
    def hold_ring(self, rows, ring, behind):
        """What points 6 and 7 say of one ring that is taken out."""
        people = [person for person, _ in ring]
        self.assertGreaterEqual(len(people), 2)
        self.assertEqual(len(people), len(set(people)))
        self.assertEqual(people[0], min(people))
        for place, (person, best) in enumerate(ring):
            self.assertEqual(rows[person][0], best)
            self.assertEqual(rows[person][1], ring[(place + 1) % len(ring)][1])
        self.assertEqual(behind, plain_out(rows, ring))
        for person, row in enumerate(rows):
            self.assertEqual(row == [], behind[person] == [])
            for other in behind[person]:
                best = behind[person][0] == other
                self.assertEqual(best, behind[other][-1] == person)

    def hold_last(self, rows):
        """What points 8 and 9 say of the table that stays; tells how many odd rings it has."""
        several = [person for person, row in enumerate(rows) if len(row) > 1]
        for person, row in enumerate(rows):
            if len(row) == 1:
                self.assertEqual(rows[row[0]], [person])
        rings = 0
        while several:
            first = several[0]
            ring = [first]
            while rows[ring[-1]][0] != first:
                ring.append(rows[ring[-1]][0])
                self.assertIn(ring[-1], several)
            self.assertEqual(len(ring) % 2, 1)
            self.assertGreaterEqual(len(ring), 3)
            for place, person in enumerate(ring):
                self.assertEqual(rows[person], [ring[(place + 1) % len(ring)], ring[place - 1]])
            several = [person for person in several if person not in ring]
            rings += 1
        return rings

    def hold(self, lists):
        """Tells how many rings go and how many stay."""
        told = rings_out(lists)
        rows = offered(lists)
        for ring, behind in told:
            self.hold_ring(rows, ring, behind)
            rows = behind
        self.assertEqual(last_rows(lists), rows)
        self.assertEqual(rings_out(lists), told)
        return len(told), self.hold_last(rows)

    def test_few(self):
        gone = stay = both = 0
        for lists in cases.many_lists(11, 1500, 10):
            out, odd = self.hold(lists)
            gone += out
            stay += odd
            both += out > 0 and odd > 0
        self.assertGreater(gone, 100)
        self.assertGreater(stay, 100)
        self.assertGreater(both, 3)

    def test_many(self):
        gone = stay = 0
        for lists in cases.random_tables(12):
            out, odd = self.hold(lists)
            gone += out
            stay += odd
        self.assertGreater(gone, 100)
        self.assertGreater(stay, 10)

    def test_a_good_pairing_is_left_behind_each_ring(self):
        rings = 0
        for lists in list(cases.many_lists(13, 600, 6)) + [cases.CIRCLE, cases.SIX, cases.SEVEN]:
            good = cases.plain_good(lists)
            for _, behind in rings_out(lists):
                rings += 1
                good_left = [
                    pairing for pairing in good
                    if all(mate is None or mate in row for mate, row in zip(pairing, behind))
                ]
                self.assertEqual(good_left == [], good == [])
        self.assertGreater(rings, 20)
