"""From which stocks a block can be made that gives a kind, how, and what shows that it cannot be made from others."""

from endsahead.library import kinds_in, once_kinds
from endsahead.making import MOST_MEMBERS, is_closed, is_shape, least_stocks, shape_of, spent_by, tables_of
from endsahead.stocks import Scale, added, is_above, is_least_lot, is_met, stock_of, taken, without


def steps_of(declarations):
    """Return the dict from the tuples (word, kind) of all steps to their gains.

    The gains are the stocks that a let, an open, or each arm of a match adds for the block behind it.
    """
    steps = {("let", kind): [((kind, 1),)] for kind in kinds_in(declarations)}
    for declared in declarations:
        if declared[0] == "record":
            steps[("open", declared[1])] = [stock_of(declarations, [kind for _, kind in declared[2]])]
        elif declared[0] == "choice":
            parts = [[] if part is None else [part] for _, part in declared[2]]
            steps[("match", declared[1])] = [stock_of(declarations, kinds) for kinds in parts]
    return steps


def next_lot(declarations, ex, lot):
    """Return the least ones of the members of a lot, and of all that comes of them by one step backwards."""
    scale = _scale_for(declarations, ex, lot)
    numbers = scale.numbers_of(lot)
    numbers.extend(_new_numbers(declarations, ex, scale, scale.numbers_of(lot)))
    return scale.stocks_of(scale.least_few(numbers, MOST_MEMBERS))


def _scale_for(declarations, ex, lot):
    """Return a scale for all that comes of a lot by one step."""
    steps = steps_of(declarations)
    lots = [lot, *[ex[kind] for kind in ex], *[steps[step] for step in steps]]
    return Scale(once_kinds(declarations), lots, 2)


def _new_numbers(declarations, ex, scale, numbers):
    """Return numbers of what comes by one step, all least ones among them, but for those at or above a number."""
    found = []
    steps = steps_of(declarations)
    for step in steps:
        gains = scale.numbers_of(steps[step])
        rests = scale.joins([[scale.less(number, gain) for number in numbers] for gain in gains], numbers)
        found.extend(scale.sums([rests, scale.numbers_of(ex[step[1]])], numbers))
    return found


def block_stocks(declarations, kind):
    """Return the lot of the least stocks from which a block can be made that gives a kind."""
    return lots_of(declarations, least_stocks(declarations), kind)[-1]


def rounds_many(declarations, kind):
    """Return how many rounds change something, until nothing does."""
    return len(lots_of(declarations, least_stocks(declarations), kind)) - 1


def lots_of(declarations, ex, kind):
    """Return the list of the lots of all rounds, up to the one behind which nothing changes."""
    lots = [ex[kind]]
    while len(lots) < 2 or lots[-1] != lots[-2]:
        lots.append(next_lot(declarations, ex, lots[-1]))
    return lots[:-1]


def is_plan(declarations, kind, stock, thing):
    """Tell whether any value is a plan of a kind from a stock."""
    steps = steps_of(declarations)
    waiting = [(stock, thing)]
    while waiting:
        held, plan = waiting.pop()
        if not isinstance(plan, tuple) or len(plan) not in (2, 4) or not isinstance(plan[0], str):
            return False
        if len(plan) == 2:
            if plan[0] != "give" or not _is_shape_from(declarations, kind, held, plan[1]):
                return False
        else:
            gains = steps.get((plan[0], plan[1])) if isinstance(plan[1], str) else None
            plans = plan[3] if plan[0] == "match" else (plan[3],)
            if gains is None or not isinstance(plans, tuple) or len(plans) != len(gains):
                return False
            if not _is_shape_from(declarations, plan[1], held, plan[2]):
                return False
            left = taken(declarations, held, spent_by(declarations, plan[2]))
            waiting.extend([(added(declarations, [left, gain]), inner) for gain, inner in zip(gains, plans)])
    return True


def _is_shape_from(declarations, kind, stock, thing):
    """Tell whether any value is a shape of a kind that spends no more than a stock."""
    return is_shape(declarations, kind, thing) and is_above(stock, spent_by(declarations, thing))


def plan_for(declarations, kind, stock):
    """Return a plan of a kind from a stock, None if there is none."""
    tables = tables_of(declarations)
    return plan_with(declarations, tables, lots_of(declarations, tables[-1], kind), kind, stock)


def plan_with(declarations, tables, lots, kind, stock):
    """Return a plan of a kind from a stock, None if there is none, with the tables and lots of all rounds."""
    for member in lots[-1]:
        if is_above(stock, member):
            return _plan_from(declarations, tables, lots, kind, member)
    return None


def _plan_from(declarations, tables, lots, kind, member):
    """Return a plan of a kind from a member of one of the lots: the steps by which it came, gone forward."""
    steps = {}
    waiting = [member]
    while waiting:
        low = waiting.pop()
        if low not in steps:
            steps[low] = _step_to(declarations, tables[-1], lots, low)
            waiting.extend(steps[low][3])
    shapes = {}
    plans = {}
    # A step leads to members of earlier lots; so their plans are there.
    for _, low in sorted([(_round_of(lots, low), low) for low in steps]):
        word, made, spent, ahead = steps[low]
        shape = shape_of(declarations, tables, kind if word == "give" else made, spent, shapes)
        behind = tuple([plans[other] for other in ahead])
        plans[low] = (word, shape) if word == "give" else (word, made, shape, behind if word == "match" else behind[0])
    return plans[member]


def _round_of(lots, member):
    """Return the index of the first lot that has a member."""
    return [member in lot for lot in lots].index(True)


def _step_to(declarations, ex, lots, member):
    """Return the tuple (word, kind, what is spent, members) by which a member came into the lots.

    The members are those of earlier lots from which plans go on, none behind a give.
    """
    at = _round_of(lots, member)
    if at == 0:
        return ("give", None, member, ())
    steps = steps_of(declarations)
    for step in steps:
        for spent in [low for low in ex[step[1]] if is_above(member, low)]:
            ahead = [_member_within(declarations, lots[at - 1], member, spent, gain) for gain in steps[step]]
            if None not in ahead:
                return (*step, spent, tuple(ahead))
    return None


def _member_within(declarations, lot, stock, spent, gain):
    """Return a member of a lot that a stock has behind a step that spends and gains, None if there is none."""
    for low in lot:
        if is_above(stock, added(declarations, [spent, without(declarations, low, gain)])):
            return low
    return None


def is_closed_for(declarations, kind, ex, thing):
    """Tell whether ex is a closed table, and a thing a lot of stocks that is closed for a kind with it."""
    if not is_closed(declarations, ex) or not is_least_lot(declarations, thing):
        return False
    if not all([is_met(thing, member) for member in ex[kind]]):
        return False
    scale = _scale_for(declarations, ex, thing)
    return not _new_numbers(declarations, ex, scale, scale.numbers_of(thing))


def shows_no_plan(declarations, kind, stock, ex, thing):
    """Tell whether a table and a thing show that there is no plan of a kind from a stock."""
    return is_closed_for(declarations, kind, ex, thing) and not is_met(thing, stock)
