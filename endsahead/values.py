"""Values of kinds: what they are, which tokens are in them, and how they are shown."""

from endsahead.forms import is_integer
from endsahead.library import arm_of, arms_of, fields_of, sort_of


def is_of_kind(declarations, kind, thing):
    """Tell whether any value is a value of a kind."""
    waiting = [(kind, thing)]
    while waiting:
        wanted, part = waiting.pop()
        parts = _parts_to_ask(declarations, wanted, part)
        if parts is None:
            return False
        waiting.extend(parts)
    return True


def _parts_to_ask(declarations, kind, thing):
    """Return the tuples (kind, part) on which it hangs whether a thing is of a kind, None if it surely is not."""
    if kind == "num":
        return [] if is_integer(thing) else None
    if kind == "truth":
        return [] if isinstance(thing, bool) else None
    if not isinstance(thing, tuple) or len(thing) != 2 or not isinstance(thing[0], str):
        return None
    name, held = thing
    if arms_of(declarations, kind):
        return _parts_of_arm(dict(arms_of(declarations, kind)), name, held)
    if name != kind:
        return None
    kinds = [part for _, part in fields_of(declarations, kind)]
    if not kinds:
        return [] if is_integer(held) and held >= 0 else None
    return list(zip(kinds, held)) if isinstance(held, tuple) and len(held) == len(kinds) else None


def _parts_of_arm(arms, name, held):
    if name not in arms:
        return None
    if arms[name] is None:
        return [] if held is None else None
    return [(arms[name], held)]


def tokens_in(declarations, value):
    """Return the tokens of a value, in the order in which they stand, each as often."""
    return tuple([part for part in _values_in(declarations, value) if _is_token(declarations, part)])


def _values_in(declarations, value):
    """Return the list of a value and all values in it, each ahead of its parts, from left to right."""
    found = []
    waiting = [value]
    while waiting:
        found.append(waiting.pop())
        waiting.extend(_parts_of(declarations, found[-1])[::-1])
    return found


def _parts_of(declarations, value):
    """Return the values that stand in a value, one step deep, in order."""
    if not isinstance(value, tuple):
        return ()
    if fields_of(declarations, value[0]):
        return value[1]
    return (value[1],) if arm_of(declarations, value[0]) is not None and value[1] is not None else ()


def _is_token(declarations, value):
    return isinstance(value, tuple) and sort_of(declarations, value[0]) == "once"


def are_fresh(declarations, values):
    """Tell whether no token comes twice in all values together."""
    tokens = [token for value in values for token in tokens_in(declarations, value)]
    return len(set(tokens)) == len(tokens)


def show_value(declarations, value):
    """Return a text that shows a value."""
    pieces = []
    # What is still to be shown, the next one last: texts, and values in lists of one.
    waiting = [[value]]
    while waiting:
        piece = waiting.pop()
        if isinstance(piece, str):
            pieces.append(piece)
        else:
            waiting.extend(_pieces_of(declarations, piece[0])[::-1])
    return "".join(pieces)


def _pieces_of(declarations, value):
    """Return the texts and parts, as lists of one, that show a value, one step deep."""
    if isinstance(value, bool):
        return ["true" if value else "false"]
    if is_integer(value):
        return [str(value)]
    name, held = value
    parts = _parts_of(declarations, value)
    if not parts:
        return [name] if held is None else [name, "#", str(held)]
    begin, end = ("{", "}") if fields_of(declarations, name) else ("(", ")")
    pieces = []
    for part in parts:
        pieces.extend([", ", [part]])
    return [name, begin, *pieces[1:], end]
