"""The errors that the program raises."""


class BunkError(ValueError):
    """Any error of this program."""


class BadLists(BunkError):
    """The lists are none: at is None, or the first person whose list is none."""

    def __init__(self, at):
        super().__init__(f"no lists, at {at}")
        self.at = at


class BadPairing(BunkError):
    """The pairing is none: at is None, or the first person for whom it is wrong."""

    def __init__(self, at):
        super().__init__(f"no pairing, at {at}")
        self.at = at


class TooMany(BunkError):
    """There are more people than the question can be answered for."""
