"""Rings in the table behind all offers, and how they are taken out."""

from bunkmates.offers import offered


def next_in_ring(rows, person):
    """Tell whose best one left is the second best one left of person."""
    # By point 5 it is the worst one left of that second best one.
    second = rows[person][1]
    return rows[second][-1]


def ring_from(rows, start):
    """Tell the ring to which start leads, who has two and more left."""
    walk = []
    person = start
    while person not in walk:
        walk.append(person)
        person = next_in_ring(rows, person)
    people = walk[walk.index(person):]
    least = people.index(min(people))
    return [(each, rows[each][0]) for each in people[least:] + people[:least]]


def part(rows, one, other):
    """Let the two go from one another's row, if they are not gone yet."""
    if other in rows[one]:
        rows[one].remove(other)
        rows[other].remove(one)


def taken_out(rows, ring):
    """Tell the rows behind the ring, in lists of their own."""
    behind = [list(row) for row in rows]
    ahead, _ = ring[-1]
    for person, best in ring:
        # Who goes is read off the rows as they were ahead of the whole ring:
        # the one to stay may be gone already from the row behind.
        row = rows[best]
        for other in row[row.index(ahead) + 1:]:
            part(behind, best, other)
        ahead = person
    return behind


def is_emptied(rows, behind):
    """Tell whether somebody who had one left in rows has nobody left behind them."""
    return any(row and not left for row, left in zip(rows, behind))


def rings_out(lists):
    """Tell the rings taken out one by one, each with the rows behind it."""
    rows = offered(lists)
    told = []
    many = len(rows)
    for person in range(many):
        while len(rows[person]) > 1:
            ring = ring_from(rows, person)
            behind = taken_out(rows, ring)
            # An odd ring stays. Its people have nobody else left,
            # so person, who led to it, is one of them and leads to no other ring.
            if is_emptied(rows, behind):
                break
            told.append((ring, behind))
            rows = behind
    return told


def last_rows(lists):
    """Tell the rows behind all rings."""
    told = rings_out(lists)
    if not told:
        return offered(lists)
    _, rows = told[-1]
    return rows
