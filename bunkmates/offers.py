"""The table behind all offers."""

from bunkmates.lists import mutual


def cut_behind(rows, person, kept):
    """Let all who stand behind kept go from person's row, and person from theirs."""
    row = rows[person]
    left = row.index(kept) + 1
    gone = row[left:]
    del row[left:]
    for other in gone:
        rows[other].remove(person)


def offered(lists):
    """Tell what is left of the mutual lists when everybody left is held by its best one."""
    rows = mutual(lists)
    held = [None] * len(rows)
    waiting = list(range(len(rows)))
    while waiting:
        person = waiting.pop()
        if not rows[person]:
            continue
        best = rows[person][0]
        # Nobody behind the one that best holds is left in its row,
        # so whoever still finds best in its own row is better than that one.
        if held[best] is not None:
            waiting.append(held[best])
        held[best] = person
        cut_behind(rows, best, person)
    return rows
