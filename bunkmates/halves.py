"""Half pairings: one that is steady, how they are refused, and whether one is steady."""

from bunkmates.errors import BadPairing
from bunkmates.lists import is_number, mutual, places_in
from bunkmates.pairings import spoiling, would_rather
from bunkmates.rings import last_rows


def half_pairing(lists):
    """Tell a steady half pairing: in the last table each one follows the best one left."""
    return [row[0] if row else None for row in last_rows(lists)]


def check_half(rows, half):
    """Raise BadPairing unless half is a half pairing of the people with these mutual lists."""
    if not isinstance(half, list) or len(half) != len(rows):
        raise BadPairing(None)
    followed = set()
    for person, other in enumerate(half):
        if other is None:
            continue
        if not is_number(other) or other not in rows[person] or other in followed:
            raise BadPairing(person)
        followed.add(other)
    for person, other in enumerate(half):
        follows = other is not None
        if follows != (person in followed):
            raise BadPairing(person)


def followers(half):
    """Tell for each person who follows it, or None."""
    told = [None] * len(half)
    for person, other in enumerate(half):
        if other is not None:
            told[other] = person
    return told


def is_turned_well(rows, half, behind):
    """Tell whether nobody would rather have the one behind it than whom it follows."""
    places = places_in(rows)
    return not any(
        other is not None and would_rather(places[person], behind[person], other)
        for person, other in enumerate(half)
    )


def is_steady(lists, half):
    """Tell whether the half pairing is steady."""
    rows = mutual(lists)
    check_half(rows, half)
    behind = followers(half)
    return is_turned_well(rows, half, behind) and not spoiling(rows, behind)
