"""Lists to test with, and slow, plain answers to hold the program's against."""

import random

# The tables behind all offers of these lists were worked out by hand.
SIX = [
    [3, 5, 1, 4, 2],
    [5, 2, 4, 0, 3],
    [3, 4, 0, 5, 1],
    [1, 5, 4, 0, 2],
    [3, 1, 2, 5, 0],
    [4, 0, 3, 1, 2],
]
SIX_OFFERED = [[5], [2, 4, 3], [4, 1], [1, 4], [3, 1, 2], [0]]

# Three who each want the next one, and one whom all want the least.
FOUR = [[1, 2, 3], [2, 0, 3], [0, 1, 3], [0, 1, 2]]
FOUR_OFFERED = [[1, 2], [2, 0], [0, 1], []]

# Four in a circle, with two good pairings; nothing goes by offers.
CIRCLE = [[1, 3], [2, 0], [3, 1], [0, 2]]

# An odd ring of three, and the same turned the other way.
THREE = [[1, 2], [2, 0], [0, 1]]
THREE_BACK = [[2, 1], [0, 2], [1, 0]]

# A circle of four (0, 2, 4, 6) beside an odd ring of three (1, 3, 5); 0 and 1 name one another last.
SEVEN = [[2, 6, 1], [3, 5, 0], [4, 0], [5, 1], [6, 2], [1, 3], [0, 4]]
SEVEN_OFFERED = [[2, 6], [3, 5], [4, 0], [5, 1], [6, 2], [1, 3], [0, 4]]

# Two odd rings of three, turned unlike: 0 follows 2, who follows 4; 1 follows 5, who follows 3.
TWICE = [
    [2, 4, 1, 3, 5],
    [5, 3, 0, 2, 4],
    [4, 0, 1, 3, 5],
    [1, 5, 0, 2, 4],
    [0, 2, 1, 3, 5],
    [3, 1, 0, 2, 4],
]
TWICE_HALF = [2, 5, 4, 1, 0, 3]

NO_LIST = [(), (1, 2), None, "", "12", 0, 7, True, {}, {1: 2}, range(2), b"12"]
NO_NUMBER = [None, "1", "", True, False, 1.0, [1], (1,), b"1"]


def random_lists(chance, many, likely):
    """Lists of many people, each of whom names each other one as likely as told."""
    lists = []
    for person in range(many):
        row = [other for other in range(many) if other != person and chance.random() < likely]
        chance.shuffle(row)
        lists.append(row)
    return lists


def many_lists(seed, rounds, most):
    """Lists of 0 to most people, long and short ones, the same for the same seed."""
    chance = random.Random(seed)
    for turn in range(rounds):
        yield random_lists(chance, turn % (most + 1), chance.choice([0.3, 0.6, 0.8, 1.0]))


def plain_mutual(lists):
    rows = []
    for person, row in enumerate(lists):
        rows.append([other for other in row if lists[other].count(person) == 1])
    return rows


def plain_pairings(rows):
    """All pairings of the people with these mutual rows, by trying all."""
    found = []

    def go_on(person, pairing):
        if person == len(rows):
            found.append(list(pairing))
        elif pairing[person] is not None:
            go_on(person + 1, pairing)
        else:
            go_on(person + 1, pairing)
            for other in rows[person]:
                if other > person and pairing[other] is None:
                    pairing[person] = other
                    pairing[other] = person
                    go_on(person + 1, pairing)
                    pairing[person] = None
                    pairing[other] = None

    go_on(0, [None] * len(rows))
    return found


def plain_prefers(row, other, mate):
    for each in row:
        if each == mate:
            return False
        if each == other:
            return True
    raise AssertionError("neither stands on the row")


def plain_spoilers(rows, pairing):
    found = []
    for one in range(len(rows)):
        for other in range(one + 1, len(rows)):
            if other in rows[one] and one in rows[other]:
                if plain_prefers(rows[one], other, pairing[one]):
                    if plain_prefers(rows[other], one, pairing[other]):
                        found.append((one, other))
    return found


def plain_good(lists):
    """All good pairings, in no promised order."""
    rows = plain_mutual(lists)
    return [pairing for pairing in plain_pairings(rows) if not plain_spoilers(rows, pairing)]


def good_in_order(lists):
    """All good pairings in the order that is promised: by the places of the mates."""
    rows = plain_mutual(lists)

    def places(pairing):
        return [
            len(row) if mate is None else row.index(mate) for row, mate in zip(rows, pairing)
        ]

    return sorted(plain_good(lists), key=places)


def plain_wrong_half(rows, half):
    """The first person for whom this list of numbers and Nones is no half pairing, or None."""
    for person, other in enumerate(half):
        if other is not None and (other not in rows[person] or other in half[:person]):
            return person
    for person, other in enumerate(half):
        if (other is None) == (person in half):
            return person
    return None


def plain_halves(rows):
    """All half pairings of the people with these mutual rows, by trying all."""
    ways = [[()]]
    for row in rows:
        ways.append([
            way + (other,)
            for way in ways[-1] for other in [None] + row
            if other is None or other not in way
        ])
    return [list(way) for way in ways[-1] if plain_wrong_half(rows, way) is None]


def plain_is_steady(rows, half):
    behind = [half.index(person) if person in half else None for person in range(len(rows))]
    for person, other in enumerate(half):
        if other is not None and other != behind[person]:
            if plain_prefers(rows[person], behind[person], other):
                return False
    return not plain_spoilers(rows, behind)


def plain_rings(half):
    """The rings of an odd number of three and more, each one following the next, rising."""
    told = []
    for person in range(len(half)):
        ring = [person]
        while half[ring[-1]] is not None and half[ring[-1]] not in ring:
            ring.append(half[ring[-1]])
        if len(ring) > 2 and len(ring) % 2 == 1 and person == min(ring):
            told.append(ring)
    return told


def random_tables(seed):
    """Lists of up to sixty people, of an even and of an odd number."""
    chance = random.Random(seed)
    for many in (8, 9, 15, 20, 31, 40, 59, 60):
        for likely in (0.1, 0.4, 0.8, 1.0, 1.0):
            yield random_lists(chance, many, likely)
    for many in (13, 30, 59, 60):
        # All turn the same way, so that rings are long and stay for long.
        yield [[(person + step) % many for step in range(1, many)] for person in range(many)]


def plain_offered(lists, choose):
    """The table behind all offers; who offers next is chosen among all who are not held."""
    rows = plain_mutual(lists)
    holds = {}
    while True:
        free = [p for p in range(len(rows)) if rows[p] and holds.get(rows[p][0]) != p]
        if not free:
            return rows
        person = choose(free)
        best = rows[person][0]
        old = holds.get(best)
        if old is None or plain_prefers(rows[best], person, old):
            holds[best] = person
        place = rows[best].index(holds[best])
        for other in list(rows[best][place + 1:]):
            rows[best] = [each for each in rows[best] if each != other]
            rows[other] = [each for each in rows[other] if each != best]
