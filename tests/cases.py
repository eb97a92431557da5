"""Lists to test with, and slow, plain answers to hold the program's against."""

import random

# The tables behind all offers of these lists were worked out by hand.
SIX = [
    [3, 5, 1, 4, 2],
    [5, 2, 4, 0, 3],
    [3, 4, 0, 5, 1],
    [1, 5, 4, 0, 2],
    [3, 1, 2, 5, 0],
    [4, 0, 3, 1, 2],
]
SIX_OFFERED = [[5], [2, 4, 3], [4, 1], [1, 4], [3, 1, 2], [0]]

# Three who each want the next one, and one whom all want the least.
FOUR = [[1, 2, 3], [2, 0, 3], [0, 1, 3], [0, 1, 2]]
FOUR_OFFERED = [[1, 2], [2, 0], [0, 1], []]

# Four in a circle, with two good pairings; nothing goes by offers.
CIRCLE = [[1, 3], [2, 0], [3, 1], [0, 2]]

NO_LIST = [(), (1, 2), None, "", "12", 0, 7, True, {}, {1: 2}, range(2), b"12"]
NO_NUMBER = [None, "1", "", True, False, 1.0, [1], (1,), b"1"]


def random_lists(chance, many, likely):
    """Lists of many people, each of whom names each other one as likely as told."""
    lists = []
    for person in range(many):
        row = [other for other in range(many) if other != person and chance.random() < likely]
        chance.shuffle(row)
        lists.append(row)
    return lists


def many_lists(seed, rounds, most):
    """Lists of 0 to most people, long and short ones, the same for the same seed."""
    chance = random.Random(seed)
    for turn in range(rounds):
        yield random_lists(chance, turn % (most + 1), chance.choice([0.3, 0.6, 0.8, 1.0]))


def plain_mutual(lists):
    rows = []
    for person, row in enumerate(lists):
        rows.append([other for other in row if lists[other].count(person) == 1])
    return rows


def plain_pairings(rows):
    """All pairings of the people with these mutual rows, by trying all."""
    found = []

    def go_on(person, pairing):
        if person == len(rows):
            found.append(list(pairing))
        elif pairing[person] is not None:
            go_on(person + 1, pairing)
        else:
            go_on(person + 1, pairing)
            for other in rows[person]:
                if other > person and pairing[other] is None:
                    pairing[person] = other
                    pairing[other] = person
                    go_on(person + 1, pairing)
                    pairing[person] = None
                    pairing[other] = None

    go_on(0, [None] * len(rows))
    return found


def plain_prefers(row, other, mate):
    for each in row:
        if each == mate:
            return False
        if each == other:
            return True
    raise AssertionError("neither stands on the row")


def plain_spoilers(rows, pairing):
    found = []
    for one in range(len(rows)):
        for other in range(one + 1, len(rows)):
            if other in rows[one] and one in rows[other]:
                if plain_prefers(rows[one], other, pairing[one]):
                    if plain_prefers(rows[other], one, pairing[other]):
                        found.append((one, other))
    return found


def plain_good(lists):
    """All good pairings, in no promised order."""
    rows = plain_mutual(lists)
    return [pairing for pairing in plain_pairings(rows) if not plain_spoilers(rows, pairing)]


def plain_offered(lists, choose):
    """The table behind all offers; who offers next is chosen among all who are not held."""
    rows = plain_mutual(lists)
    holds = {}
    while True:
        free = [p for p in range(len(rows)) if rows[p] and holds.get(rows[p][0]) != p]
        if not free:
            return rows
        person = choose(free)
        best = rows[person][0]
        old = holds.get(best)
        if old is None or plain_prefers(rows[best], person, old):
            holds[best] = person
        place = rows[best].index(holds[best])
        for other in list(rows[best][place + 1:]):
            rows[best] = [each for each in rows[best] if each != other]
            rows[other] = [each for each in rows[other] if each != best]
