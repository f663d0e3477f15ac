"""From which further parameters on a row that is no beginning would be one."""

from endsahead.demands import aims_on, demands_with, gains_of, is_free_to_end, stock_to_spend
from endsahead.ends import are_met, is_beginning, is_in_repeat, kind_to_give
from endsahead.library import plain_kinds
from endsahead.stands import function_at, stand_at
from endsahead.stocks import added, joins_of, least_of, sums_of, sums_within, without
from endsahead.tables import Tables


def widened(row, stock):
    """Return the row with as many more parameters of the function that is open as a stock counts."""
    close = _end_of_parameters(row)
    if close is None:
        return row
    kinds = [kind for kind, count in stock for _ in range(count)]
    found = []
    for name, kind in zip(_names_new(row, len(kinds)), kinds):
        found.extend([",", name, ":", kind])
    if row[close - 1] == "(":
        # Behind no parameters no comma comes.
        found = found[1:]
    return (*row[:close], *found, *row[close:])


def _end_of_parameters(row):
    """Return the index of the `)` behind the parameters of the function that is open, None if there is none."""
    if function_at(row) is None:
        return None
    begin = len(row) - 1 - row[::-1].index("def")
    return row.index(")", begin) if ")" in row[begin:] else None


def _names_new(row, many):
    """Return the list of the first so many of the names new1, new2 and so on that stand nowhere in a row."""
    taken = set(row)
    found = []
    number = 0
    while len(found) < many:
        number += 1
        if f"new{number}" not in taken:
            found.append(f"new{number}")
    return found


def is_lack(row, stock):
    """Tell whether the row that is widened by a stock is a beginning."""
    return is_beginning(widened(row, stock))


def lacks(row):
    """Return the least stocks by which a row that can be read has to be widened to be a beginning."""
    return lacks_with(row, Tables())


def lacks_with(row, tables):
    """Return the least stocks by which a row that can be read has to be widened to be a beginning."""
    stand = stand_at(row)
    if are_met(stand, tables):
        return ((),)
    ex = tables.least(stand.declarations)
    lot = tables.least_of_blocks(stand.declarations, kind_to_give(stand))
    found = [_lacking(stand, lot, demand) for demand in demands_with(stand, ex)]
    if _waits_for_more(stand):
        found[-1] = _lacking_inside(stand, ex) if is_in_repeat(stand) else _lacking_at_end(stand, ex, lot)
    # Very many stocks may lack at the end: they are not joined with what lacks nothing.
    found = [stocks for stocks in found if stocks != ((),)]
    return found[0] if len(found) == 1 else joins_of(found)


def _lacking(stand, lot, demand):
    """Return the least stocks with which a demand is met, if they only are added to all its stocks."""
    found = []
    for alternative in demand:
        found.extend(joins_of([_rests(stand, lot, stock) for stock in alternative]))
    return least_of(found)


def _rests(stand, stocks, held):
    """Return the least ones of what some stocks have beyond one that is held."""
    return least_of([without(stand.declarations, stock, held) for stock in stocks])


def _waits_for_more(stand):
    """Tell whether the last demand is that of a statement that has begun, and spends something up to its end."""
    block = stand.blocks[-1]
    return block.word != "match" and not block.gave and not is_free_to_end(stand)


def _lacking_at_end(stand, ex, lot):
    """Return the least stocks with which a statement can be ended so that what is left is enough for the block."""
    found = []
    for kind, awaited in aims_on(stand):
        lots = [ex[part] for part in awaited]
        found.extend(sums_of(stand.declarations, [*lots, _needed_behind(stand, kind, lot)]))
    return _rests(stand, found, stock_to_spend(stand))


def _needed_behind(stand, kind, lot):
    """Return the least stocks that a statement has to leave, if it aims at a kind."""
    if stand.statement.word == "give":
        return ((),)
    # What is enough behind a match is enough in each of its blocks.
    return joins_of([_rests(stand, lot, gain) for gain in gains_of(stand, kind)])


def _lacking_inside(stand, ex):
    """Return the least stocks with which a statement can be ended in the block of a repeat: of plain kinds alone."""
    declarations, held = stand.declarations, stock_to_spend(stand)
    most = added(declarations, [held, *[((kind, 1),) for kind in plain_kinds(declarations)]])
    found = []
    for _, awaited in aims_on(stand):
        found.extend(sums_within(declarations, [ex[part] for part in awaited], most))
    return _rests(stand, found, held)
