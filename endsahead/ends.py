"""Which rows are beginnings, and words that end them."""

from endsahead.demands import demands_with, is_met_by, ways_on
from endsahead.errors import NoEnding
from endsahead.making import members_adding_up, shape_of
from endsahead.shower import row_of_block, row_of_expression
from endsahead.standing import Stand, fields_on
from endsahead.stands import kinds_awaited, stock_there, take_word
from endsahead.tables import Tables
from endsahead.words import sort_of_word
from endsahead.writing import new_names, written, written_plan

# Steps that need no word: what comes behind them can be written at once.
NEEDLESS_STEPS = ("ANY", "MORE", "PART_TOLD", "ELSE")
NAMING_STEPS = ("NEW", "FIELD_TOLD", "ARM_TOLD", "PARAMETER_TOLD", "TOLD", "HELD")


def is_beginning(row):
    """Tell whether a row is a beginning."""
    return begins(row, Tables())


def begins(row, tables):
    """Tell whether a row is a beginning."""
    return goes_on(Stand(), row, tables)


def goes_on(stand, words, tables):
    """Tell whether what stands there, and words behind it, are a beginning; the words are taken."""
    return takes(stand, words) and are_met(stand, tables)


def takes(stand, words):
    """Take words; tell whether all of them can stand there."""
    for word in words:
        if not take_word(stand, word):
            return False
    return True


def are_met(stand, tables):
    """Tell whether all demands at a place are met."""
    # The block of a function is open from its kind on; ahead of it nothing is demanded, and no tables are needed.
    if not stand.blocks:
        return True
    found = demands_with(stand, tables.least(stand.declarations))
    # What no table of blocks is needed for is asked first: it may be told though these have too many members.
    if () in found:
        return False
    return all([is_met_there(stand, demand, tables) for demand in found])


def is_met_there(stand, demand, tables):
    """Tell whether a demand at a place is met."""
    if len(demand) == 0 or () in demand:
        return len(demand) > 0
    return is_met_by(tables.least_of_blocks(stand.declarations, kind_to_give(stand)), demand)


def kind_to_give(stand):
    """Return the kind of the function that is open."""
    return stand.head.kinds[-1]


def is_in_repeat(stand):
    """Tell whether the block of a repeat is open."""
    return any([block.word == "repeat" for block in stand.blocks])


def ending(row):
    """Return words with which a row is that of a right program."""
    return ending_with(row, Tables())


def ending_with(row, tables):
    """Return words with which a row is that of a right program."""
    stand = Stand()
    if not goes_on(stand, row, tables):
        raise NoEnding()
    words = list(row)
    while stand.steps[-1] != "DECLARATIONS":
        more = _words_next(stand, words, tables)
        takes(stand, more)
        words.extend(more)
    return tuple(words[len(row):])


def _words_next(stand, words, tables):
    """Return words with which what stands there gets nearer to its end; words are all up to there."""
    needed = [step for step in stand.steps if step.partition(" ")[0] not in NEEDLESS_STEPS]
    step = needed[-1]
    if sort_of_word(step) is not None:
        return (step,)
    if step in NAMING_STEPS:
        return new_names(words, 1)
    write = WRITERS[step]
    return write(stand, words, tables)


def _write_kind(stand, words, tables):
    return ("num",)


def _write_aim(stand, words, tables):
    """Write the record of an open, or the choice of a match."""
    return (_way_met(stand, tables)[0],)


def _way_met(stand, tables):
    """Return a way on to the end of the statement behind which all can be ended."""
    for way in ways_on(stand, tables.least(stand.declarations)):
        # In the block of a repeat nothing has to be given: any end will do.
        if is_in_repeat(stand) or is_met_there(stand, way[2], tables):
            return way
    return None


def _write_operand(stand, words, tables):
    """Write an operand that spends the first part of what the way on spends."""
    kinds, ex = kinds_awaited(stand), tables.least(stand.declarations)
    spent = _way_met(stand, tables)[1]
    members = members_adding_up(stand.declarations, [ex[kind] for kind in kinds], spent)
    shape = shape_of(stand.declarations, tables.rounds(stand.declarations), kinds[0], members[0], {})
    return row_of_expression(written(stand.declarations, shape, _names_free(stand))[0], 1)


def _names_free(stand):
    """Return the tuples (name, kind) of the names that can stand in an E, in the order in which they were made."""
    return tuple([(name, stand.names[name][0]) for name in stand.names if stand.can_stand(name)])


def _write_behind(stand, words, tables):
    """Go on behind an operand by fields to its aim, by `< 0` from num to truth, and then to the end of the E."""
    tree = stand.nest[-1]
    if tree.kind == "num" and tree.aim == "truth" and not tree.has_less:
        return ("<", "0")
    if tree.kind != tree.aim_of_operand:
        return (".",)
    return (stand.steps[-2],)


def _write_field(stand, words, tables):
    return (list(fields_on(stand, stand.nest[-1]))[0],)


def _write_statements(stand, words, tables):
    """End a block: at once, if what stands around it can be ended then, or by a plan that gives."""
    block = stand.blocks[-1]
    if block.gave or (block.word != "def" and goes_on(stand.twin(), ("}",), tables)):
        return ("}",)
    plan = tables.plan(stand.declarations, kind_to_give(stand), stock_there(stand))
    return row_of_block(written_plan(stand.declarations, plan, _names_free(stand), words))[1:-1]


def _write_case(stand, words, tables):
    """Write the name of the next arm, or end the match."""
    arms = stand.blocks[-1].arms
    return (arms[0][0],) if arms else ("}",)


WRITERS = {
    "KIND": _write_kind,
    "AIM": _write_kind,
    "RECORD": _write_aim,
    "CHOICE": _write_aim,
    "OPERAND": _write_operand,
    "BEHIND": _write_behind,
    "FIELD": _write_field,
    "STATEMENTS": _write_statements,
    "CASES": _write_case,
}
