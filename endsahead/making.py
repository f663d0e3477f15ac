"""From which stocks an E of a kind can be made, how, and what shows that it cannot be made from others."""

from endsahead.library import arm_of, fields_of, function_of, kinds_in, makers, once_kinds
from endsahead.stocks import Scale, added, is_above, is_least_lot, is_met, stock_of

MOST_MEMBERS = 60
# Kinds of which an E can always be made; each one is the word of its shape, too.
FREE_KINDS = ("num", "truth")


def rules_of(declarations):
    """Return the list of the tuples (what, kind, kinds) of all that makes a kind of others, in order."""
    rules = [((word, name), kind, kinds) for word, name, kinds, kind in makers(declarations)]
    for declared in declarations:
        if declared[0] == "record":
            rules.extend([(("field", declared[1], field), kind, (declared[1],)) for field, kind in declared[2]])
    return rules


def first_table(declarations):
    """Return the table with which the rounds begin."""
    kinds = kinds_in(declarations)
    return {kind: (((kind, 1),) if kind in kinds else (),) for kind in sorted([*kinds, *FREE_KINDS])}


def next_table(declarations, table):
    """Return the table that one more round makes of a table."""
    return _table_behind(declarations, table, list(table))


def least_stocks(declarations):
    """Return the table of the least stocks from which an E of each kind can be made."""
    return tables_of(declarations)[-1]


def tables_of(declarations):
    """Return the list of the tables of all rounds, up to the one behind which nothing changes."""
    tables = [first_table(declarations)]
    changed = list(tables[0])
    while changed:
        table = _table_behind(declarations, tables[-1], changed)
        changed = [kind for kind in table if table[kind] != tables[-1][kind]]
        tables.append(table)
    return tables[:-1]


def _table_behind(declarations, table, changed):
    """Return the next table, where only sums of lots that have changed can bring something new."""
    rules = [(kind, kinds) for _, kind, kinds in rules_of(declarations) if kind not in FREE_KINDS]
    scale, numbers = _weighed(declarations, table)
    found = {kind: list(numbers[kind]) for kind in sorted(table)}
    for kind, kinds in rules:
        if not kinds or any([part in changed for part in kinds]):
            found[kind].extend(scale.sums([numbers[part] for part in kinds], numbers[kind]))
    return {kind: scale.stocks_of(scale.least_few(found[kind], MOST_MEMBERS)) for kind in found}


def _weighed(declarations, table):
    """Return a scale for the sums that rules make of a table, and the dict of the numbers of its lots."""
    most = max([1, *[len(kinds) for _, _, kinds in rules_of(declarations)]])
    scale = Scale(once_kinds(declarations), [table[kind] for kind in table], most)
    return scale, {kind: scale.numbers_of(table[kind]) for kind in table}


def is_shape(declarations, kind, thing):
    """Tell whether any value is a shape of a kind."""
    waiting = [(kind, thing)]
    while waiting:
        wanted, part = waiting.pop()
        made, parts = _made_by(declarations, part)
        if made is None or made != wanted:
            return False
        waiting.extend(parts)
    return True


def kind_of_shape(declarations, shape):
    """Return the kind of a shape."""
    return _made_by(declarations, shape)[0]


def _made_by(declarations, thing):
    """Return the tuple (kind, tuples (kind, shape) of its parts) of any value, judged by its outermost words.

    The kind is None if these are not those of a shape.
    """
    # A field has the kind that its record tells, however many fields stand round one another.
    fields = []
    inner = thing
    while _has_form(inner, "field", 3) and isinstance(inner[2], str):
        fields.append(inner[2])
        inner = inner[1]
    kind, parts = _made_without_field(declarations, inner)
    if not fields:
        return kind, parts
    for field in fields[:0:-1]:
        kind = dict(fields_of(declarations, kind)).get(field)
    return dict(fields_of(declarations, kind)).get(fields[0]), [(kind, thing[1])]


def _has_form(thing, word, many):
    """Tell whether any value is a tuple of so many, the first one a word."""
    return isinstance(thing, tuple) and len(thing) == many and isinstance(thing[0], str) and thing[0] == word


def _made_without_field(declarations, thing):
    """Return what _made_by does of what is no field."""
    for kind in FREE_KINDS:
        if _has_form(thing, kind, 1):
            return kind, []
    if _has_form(thing, "take", 2):
        return (thing[1] if thing[1] in kinds_in(declarations) else None), []
    if not isinstance(thing, tuple) or len(thing) != 3 or not isinstance(thing[1], str):
        return None, []
    if _has_form(thing, "arm", 3):
        return _made_by_arm(declarations, thing)
    kinds, kind = None, None
    if _has_form(thing, "call", 3):
        kinds, kind = function_of(declarations, thing[1]) or (None, None)
    elif _has_form(thing, "record", 3) and fields_of(declarations, thing[1]):
        kinds, kind = [part for _, part in fields_of(declarations, thing[1])], thing[1]
    if kinds is None or not isinstance(thing[2], tuple) or len(thing[2]) != len(kinds):
        return None, []
    return kind, list(zip(kinds, thing[2]))


def _made_by_arm(declarations, thing):
    choice, part = arm_of(declarations, thing[1]) or (None, None)
    if part is None:
        return (choice if thing[2] is None else None), []
    return choice, [(part, thing[2])]


def shapes_within(shape):
    """Return the tuple of the shapes that stand in a shape, one step deep, in order."""
    if shape[0] in ("call", "record"):
        return shape[2]
    if shape[0] == "field":
        return (shape[1],)
    return (shape[2],) if shape[0] == "arm" and shape[2] is not None else ()


def shapes_in(shape):
    """Return the list of a shape and all shapes in it, each ahead of those within it, from left to right."""
    found = []
    waiting = [shape]
    while waiting:
        found.append(waiting.pop())
        waiting.extend(shapes_within(found[-1])[::-1])
    return found


def spent_by(declarations, shape):
    """Return the stock that a shape spends."""
    return stock_of(declarations, [inner[1] for inner in shapes_in(shape) if inner[0] == "take"])


def shape_for(declarations, kind, stock):
    """Return a shape of a kind that spends no more than a stock, None if there is none."""
    tables = tables_of(declarations)
    for member in tables[-1][kind]:
        if is_above(stock, member):
            return shape_of(declarations, tables, kind, member, {})
    return None


def shape_of(declarations, tables, kind, member, known):
    """Return a shape that spends just a member of the lot of its kind in one of the tables.

    It is the one by which the member came into the lot: had it a shape of the same kind within, then the member
    would be at or above one that is in the lot already. Each step leads to an earlier table; so this ends. Shapes
    are kept in the dict of the known ones.
    """
    if (kind, member) not in known:
        known[(kind, member)] = _shape_made(declarations, tables, kind, member, known)
    return known[(kind, member)]


def _shape_made(declarations, tables, kind, member, known):
    if kind in FREE_KINDS:
        return (kind,)
    if member in tables[0][kind]:
        return ("take", kind)
    rounds = [at for at, table in enumerate(tables) if member in table[kind]]
    table = tables[rounds[0] - 1]
    for what, made, kinds in rules_of(declarations):
        members = None
        if made == kind:
            members = members_adding_up(declarations, [table[part] for part in kinds], member)
        if members is not None:
            shapes = [shape_of(declarations, tables, part, low, known) for part, low in zip(kinds, members)]
            return _shape_from(what, tuple(shapes))
    return None


def members_adding_up(declarations, lots, stock):
    """Return the tuple of a member of each lot, added just a stock, None if there is none."""
    sums = {(): ()}
    for lot in lots:
        low = [member for member in lot if is_above(stock, member)]
        longer = {added(declarations, [total, member]): (*sums[total], member) for total in sums for member in low}
        sums = {total: longer[total] for total in longer if is_above(stock, total)}
    return sums.get(stock)


def _shape_from(what, shapes):
    """Return the shape that a rule makes of the shapes of its parts."""
    if what[0] == "field":
        return ("field", shapes[0], what[2])
    if what[0] == "arm":
        return ("arm", what[1], shapes[0] if shapes else None)
    return (what[0], what[1], shapes)


def is_closed(declarations, thing):
    """Tell whether any value is a closed table."""
    if not _is_table(declarations, thing) or not all([thing[kind] == ((),) for kind in FREE_KINDS]):
        return False
    if not all([is_met(thing[kind], ((kind, 1),)) for kind in kinds_in(declarations)]):
        return False
    scale, numbers = _weighed(declarations, thing)
    for _, kind, kinds in rules_of(declarations):
        if scale.sums([numbers[part] for part in kinds], numbers[kind]):
            return False
    return True


def _is_table(declarations, thing):
    """Tell whether any value is a table."""
    kinds = [*kinds_in(declarations), *FREE_KINDS]
    if not isinstance(thing, dict) or len(thing) != len(kinds) or not all([kind in thing for kind in kinds]):
        return False
    return all([is_least_lot(declarations, thing[kind]) for kind in kinds])


def shows_none(declarations, kind, stock, thing):
    """Tell whether any value is a closed table that shows that no shape of a kind can be made from a stock."""
    return is_closed(declarations, thing) and not is_met(thing[kind], stock)
