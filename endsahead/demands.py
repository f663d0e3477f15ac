"""What the unspent names of a row have to be enough for, if a right program is to begin with it."""

from endsahead.blocks import block_stocks, steps_of
from endsahead.making import least_stocks
from endsahead.standing import have_all_given, spent_behind_all
from endsahead.stands import kinds_awaited, stand_at, stock_there
from endsahead.stocks import added, is_above, stock_of, sums_within, taken

# What stands behind the word with which a statement begins, if its E is told by the sort of it.
SORTS_OPENED = {"open": "record", "match": "choice"}


def demands(row):
    """Return the demands of a row that can be read."""
    stand = stand_at(row)
    # The block of a function is open from its kind on.
    return demands_with(stand, least_stocks(stand.declarations)) if stand.blocks else ()


def demands_with(stand, ex):
    """Return the demands at a place in a function, a table being that of the least stocks."""
    repeats = [at for at, block in enumerate(stand.blocks) if block.word == "repeat"]
    outer = repeats[0] if repeats else len(stand.blocks)
    found = []
    for at, block in enumerate(stand.blocks[:outer]):
        if block.word == "match":
            found.append(_lot_of(_alternatives_of_match(stand, at)))
        elif block.word == "else" and not block.closed[0].gave:
            found.append(((_stock_outside(stand, at, block.closed[0].behind),),))
    ends_alone = stand.blocks[-1].word == "match"
    if repeats:
        found.append(((_stock_outside(stand, outer, stand.blocks[outer].before),),))
        found.append(((),) if ends_alone or _finishes(stand, ex) else ())
    elif not ends_alone:
        found.append(_lot_of(_finishes(stand, ex)))
    return tuple(found)


def _lot_of(things):
    return tuple(sorted(set(things)))


def _stock_outside(stand, at, spent):
    """Return the stock of the names outside of the block at an index, less those that are spent."""
    names = [name for name in stand.names if stand.names[name][1] < at and name not in spent]
    return stock_of(stand.declarations, [stand.names[name][0] for name in names])


def _alternatives_of_match(stand, at):
    """Return the alternatives of the match at an index: what is left behind it, or for each arm still to come."""
    block = stand.blocks[at]
    left = _stock_outside(stand, at, spent_behind_all(block.before, block.closed))
    if not have_all_given(block.closed):
        return [(left,)]
    parts = [_part_of(stand, part) for _, part in block.arms]
    return [(left,), _lot_of([added(stand.declarations, [left, part]) for part in parts])]


def _part_of(stand, kind):
    """Return the stock of the part of an arm, which may have none."""
    return stock_of(stand.declarations, [] if kind is None else [kind])


def _finishes(stand, ex):
    """Return the list of the finishes: alternatives of what is left behind the statement that has not ended."""
    if stand.blocks[-1].gave:
        return [()]
    if is_free_to_end(stand):
        return [(stock_to_spend(stand),)]
    found = []
    for way in ways_on(stand, ex):
        found.extend(way[2])
    return found


def is_free_to_end(stand):
    """Tell whether no statement has begun that has to spend something, or that aims at a kind that is told."""
    told = stand.statement
    return told is None or (told.kind is None and told.word == "let")


def stock_to_spend(stand):
    """Return the stock of the names that can stand in an E, with the part that a case is to have a name for."""
    return added(stand.declarations, [stock_there(stand), _part_of(stand, stand.blocks[-1].part)])


def aims_on(stand):
    """Return the tuples (kind at which the statement may aim, kinds that are to come in it then)."""
    told = stand.statement
    if told.kind is not None:
        return [(told.kind, kinds_awaited(stand))]
    kinds = [declared[1] for declared in stand.declarations if declared[0] == SORTS_OPENED[told.word]]
    return [(kind, (kind,)) for kind in kinds]


def ways_on(stand, ex):
    """Return the tuples (kind at which the statement aims, stock that its end spends, alternatives behind it)."""
    stock = stock_to_spend(stand)
    found = []
    for kind, awaited in aims_on(stand):
        gains = gains_of(stand, kind)
        for spent in sums_within(stand.declarations, [ex[part] for part in awaited], stock):
            left = taken(stand.declarations, stock, spent)
            found.append((kind, spent, _alternatives_behind(stand, gains, left)))
    return found


def gains_of(stand, kind):
    """Return the list of what the statement adds behind it, in each block of a match, if it aims at a kind."""
    return steps_of(stand.declarations).get((stand.statement.word, kind), [()])


def _alternatives_behind(stand, gains, left):
    """Return the alternatives behind the statement, a stock being left behind its E."""
    word = stand.statement.word
    if word == "give":
        return [()]
    behind = [added(stand.declarations, [left, gain]) for gain in gains]
    return [(left,), _lot_of(behind)] if word == "match" else [(behind[0],)]


def is_met(row, demand):
    """Tell whether a demand of a row is met."""
    if len(demand) == 0 or () in demand:
        return len(demand) > 0
    stand = stand_at(row)
    return is_met_by(block_stocks(stand.declarations, stand.head.kinds[-1]), demand)


def is_met_by(lot, demand):
    """Tell whether all stocks of one of the alternatives of a demand are at or above members of a lot."""
    return any([all([_is_above_one(lot, stock) for stock in alternative]) for alternative in demand])


def _is_above_one(lot, stock):
    return any([is_above(stock, member) for member in lot])
