"""Pairings: how they are refused, who spoils one, and whether it is good."""

from bunkmates.errors import BadPairing
from bunkmates.lists import is_number, mutual, places_in


def is_wrong_for(person, pairing, rows):
    """Tell whether person's mate is not on its row, or does not have person as its mate."""
    mate = pairing[person]
    if mate is None:
        return False
    if not is_number(mate) or mate not in rows[person]:
        return True
    back = pairing[mate]
    return not is_number(back) or back != person


def check_pairing(rows, pairing):
    """Raise BadPairing unless pairing is one of the people with these mutual lists."""
    if not isinstance(pairing, list) or len(pairing) != len(rows):
        raise BadPairing(None)
    for person in range(len(rows)):
        if is_wrong_for(person, pairing, rows):
            raise BadPairing(person)


def would_rather(places, other, mate):
    """Tell whether one with these places on its list would rather have other than mate."""
    return mate is None or places[other] < places[mate]


def spoiling(rows, mates):
    """Tell the pairs of two who would each rather have the other than the told mate."""
    places = places_in(rows)
    return [
        (one, other)
        for one, row in enumerate(rows)
        for other in sorted(row)
        if one < other
        and would_rather(places[one], other, mates[one])
        and would_rather(places[other], one, mates[other])
    ]


def spoilers(lists, pairing):
    """Tell the pairs of two who spoil the pairing, the less one first, rising."""
    rows = mutual(lists)
    check_pairing(rows, pairing)
    return spoiling(rows, pairing)


def is_good(lists, pairing):
    """Tell whether no two spoil the pairing."""
    return not spoilers(lists, pairing)
