"""Forms of small things: each function asks any value whether it is what its name says."""

from endsahead.words import sort_of_word


def is_integer(thing):
    """Tell whether any value is an integer; True and False are none."""
    return isinstance(thing, int) and not isinstance(thing, bool)


def is_name(thing):
    """Tell whether any value is a name."""
    return sort_of_word(thing) == "name"


def is_kind(thing):
    """Tell whether any value is num, truth or a name."""
    return is_name(thing) or (isinstance(thing, str) and thing in ("num", "truth"))


def is_lot(thing):
    """Tell whether any value is an ascending tuple of strings."""
    if not isinstance(thing, tuple) or not all([isinstance(member, str) for member in thing]):
        return False
    return all([one < other for one, other in zip(thing, thing[1:])])
