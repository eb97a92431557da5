"""The lists of all people: how they are refused, and what is mutual in them."""

from bunkmates.errors import BadLists

MOST_PEOPLE = 60


def is_number(value):
    """Tell whether value is a whole number."""
    # Python counts True and False among the integers, the document does not.
    return isinstance(value, int) and not isinstance(value, bool)


def is_row(row, person, many):
    """Tell whether row is a list of others than person out of many people, each once."""
    if not isinstance(row, list):
        return False
    seen = set()
    for other in row:
        if not is_number(other) or other < 0 or other >= many:
            return False
        if other == person or other in seen:
            return False
        seen.add(other)
    return True


def check_lists(lists):
    """Raise BadLists unless lists is a list with a good list for each person."""
    if not isinstance(lists, list) or len(lists) > MOST_PEOPLE:
        raise BadLists(None)
    for person, row in enumerate(lists):
        if not is_row(row, person, len(lists)):
            raise BadLists(person)


def places_in(rows):
    """For each row, tell at which place each one of it stands."""
    return [{other: place for place, other in enumerate(row)} for row in rows]


def mutual(lists):
    """Tell the lists without all who don't name one back."""
    check_lists(lists)
    places = places_in(lists)
    return [
        [other for other in row if person in places[other]]
        for person, row in enumerate(lists)
    ]
