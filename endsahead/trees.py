"""Trees: what they are, by their form, and what stands in them."""

from endsahead.forms import is_integer, is_kind, is_name

GREATEST_NUMBER = 999999999

# Of each tree, behind its word, the sorts of what stands in it. A sort that ends with `?` may be None instead,
# one that ends with `*` is a tuple of any many, one that ends with `+` a tuple of at least one.
WORDED = {
    ("DECLARATION", "plain"): ("NAME",),
    ("DECLARATION", "once"): ("NAME",),
    ("DECLARATION", "record"): ("NAME", "FIELD+"),
    ("DECLARATION", "choice"): ("NAME", "ARM+"),
    ("DECLARATION", "given"): ("NAME", "KIND*", "KIND"),
    ("DECLARATION", "def"): ("NAME", "FIELD*", "KIND", "STATEMENT*"),
    ("STATEMENT", "let"): ("NAME", "KIND", "E"),
    ("STATEMENT", "open"): ("NAME", "NAME+", "E"),
    ("STATEMENT", "if"): ("E", "STATEMENT*", "STATEMENT*?"),
    ("STATEMENT", "match"): ("NAME", "E", "CASE*"),
    ("STATEMENT", "repeat"): ("E", "STATEMENT*"),
    ("STATEMENT", "give"): ("E",),
    ("E", "num"): ("NUMBER",),
    ("E", "truth"): ("TRUTH",),
    ("E", "name"): ("NAME",),
    ("E", "call"): ("NAME", "E*"),
    ("E", "record"): ("NAME", "E+"),
    ("E", "field"): ("E", "NAME"),
    ("E", "add"): ("E", "E"),
    ("E", "less"): ("E", "E"),
    ("E", "and"): ("E", "E"),
}
WORDLESS = {
    "FIELD": ("NAME", "KIND"),
    "ARM": ("NAME", "KIND?"),
    "CASE": ("NAME", "NAME?", "STATEMENT*"),
}
PLACES_OF_E = {"let": 3, "open": 3, "if": 1, "match": 2, "repeat": 1, "give": 1}


def is_expression(thing):
    """Tell whether any value is an E."""
    return _is_of_sort("E", thing)


def is_statement(thing):
    """Tell whether any value is a statement."""
    return _is_of_sort("STATEMENT", thing)


def is_block(thing):
    """Tell whether any value is a block."""
    return _is_of_sort("STATEMENT*", thing)


def is_declaration(thing):
    """Tell whether any value is a declaration."""
    return _is_of_sort("DECLARATION", thing)


def is_program(thing):
    """Tell whether any value is a program, right or not."""
    return _is_of_sort("DECLARATION*", thing)


def _is_of_sort(sort, thing):
    """Tell whether any value is of a sort, without recursion: trees may be deep."""
    waiting = [(sort, thing)]
    while waiting:
        sort, thing = waiting.pop()
        if sort in ("NAME", "KIND", "NUMBER", "TRUTH"):
            parts = [] if _is_leaf(sort, thing) else None
        else:
            parts = _parts_to_ask(sort, thing)
        if parts is None:
            return False
        waiting.extend(parts)
    return True


def _is_leaf(sort, thing):
    if sort == "NAME":
        return is_name(thing)
    if sort == "KIND":
        return is_kind(thing)
    if sort == "NUMBER":
        return is_integer(thing) and 0 <= thing <= GREATEST_NUMBER
    return isinstance(thing, bool)


def _parts_to_ask(sort, thing):
    """Return the tuples (sort, part) on which it hangs whether a thing is of a sort, None if it surely is not."""
    if sort[-1] == "?":
        return [] if thing is None else [(sort[:-1], thing)]
    if not isinstance(thing, tuple):
        return None
    if sort[-1] in ("*", "+"):
        return None if sort[-1] == "+" and len(thing) == 0 else [(sort[:-1], part) for part in thing]
    if sort in WORDLESS:
        return _paired(WORDLESS[sort], thing)
    if len(thing) == 0 or not isinstance(thing[0], str):
        return None
    return _paired(WORDED.get((sort, thing[0]), ()), thing[1:])


def _paired(sorts, parts):
    """Return the sorts and parts side by side, None if there are no sorts, or not as many as parts."""
    return list(zip(sorts, parts)) if sorts and len(sorts) == len(parts) else None


def parts_of(tree):
    """Return the tuple of the E that stand in an E, one step deep, in order."""
    if tree[0] in ("call", "record"):
        return tree[2]
    if tree[0] == "field":
        return (tree[1],)
    if tree[0] in ("add", "less", "and"):
        return (tree[1], tree[2])
    return ()


def expressions_in(block):
    """Return the tuple of the E of the statements of a block, and of blocks within, in order."""
    found = []
    waiting = list(block[::-1])
    while waiting:
        statement = waiting.pop()
        found.append(statement[PLACES_OF_E[statement[0]]])
        for inner in blocks_of(statement)[::-1]:
            waiting.extend(inner[::-1])
    return tuple(found)


def blocks_of(statement):
    """Return the tuple of the own blocks of a statement, in order."""
    if statement[0] == "if":
        return (statement[2],) if statement[3] is None else (statement[2], statement[3])
    if statement[0] == "match":
        return tuple([case[2] for case in statement[3]])
    if statement[0] == "repeat":
        return (statement[2],)
    return ()
