"""All good pairings of few people."""

from bunkmates.errors import TooMany
from bunkmates.lists import mutual
from bunkmates.offers import offered
from bunkmates.pairings import spoiling

MOST_SEARCHED = 10


def with_mate(pairing, person, row):
    """Tell the pairing with each one of row who is free as person's mate, in row's order."""
    if pairing[person] is not None or not row:
        return [pairing]
    told = []
    for mate in row:
        if pairing[mate] is None:
            wider = list(pairing)
            wider[person] = mate
            wider[mate] = person
            told.append(wider)
    return told


def pairings_in(rows):
    """Tell all pairings in which each one has a mate of its row, if there is somebody in it."""
    told = [[None] * len(rows)]
    for person, row in enumerate(rows):
        told = [wider for pairing in told for wider in with_mate(pairing, person, row)]
    return told


def all_good(lists):
    """Tell all good pairings; who comes first decides, by the order of its mutual list."""
    rows = mutual(lists)
    if len(rows) > MOST_SEARCHED:
        raise TooMany(f"more than {MOST_SEARCHED} people")
    # By point 4 each good pairing stands in the table behind all offers,
    # where just those are alone who have nobody left.
    return [pairing for pairing in pairings_in(offered(lists)) if not spoiling(rows, pairing)]
