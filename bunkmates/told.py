"""What is told of good pairings: one of them, or why there is none, and who is alone."""

from bunkmates.halves import half_pairing


def ring_of(half, first):
    """Tell the people of first's ring, from first on, each one following the next."""
    ring = [first]
    person = half[first]
    while person != first:
        ring.append(person)
        person = half[person]
    return ring


def odd_rings_in(half):
    """Tell the odd rings of the last table's half pairing."""
    rings = [ring_of(half, person) for person, other in enumerate(half) if other is not None]
    # In the last table all rings but those of two mates are odd.
    return [ring for ring in rings if len(ring) > 2 and ring[0] == min(ring)]


def paired(lists):
    """Tell a good pairing, or None where there is none."""
    half = half_pairing(lists)
    if odd_rings_in(half):
        return None
    return half


def odd_rings(lists):
    """Tell the rings of an odd number of people, each from its least person on, rising."""
    return odd_rings_in(half_pairing(lists))


def alone(lists):
    """Tell who is alone in all steady half pairings and all good pairings, rising."""
    return [person for person, other in enumerate(half_pairing(lists)) if other is None]
