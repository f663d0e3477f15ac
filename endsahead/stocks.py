"""Stocks of values: which are at or above others, what they are together, and the least ones of many."""

from endsahead.errors import TooMany
from endsahead.library import is_stock, once_kinds


def is_above(one, other):
    """Tell whether a stock is at or above another one."""
    held = dict(one)
    return all([held.get(kind, 0) >= count for kind, count in other])


def added(declarations, stocks):
    """Return what stocks are together: once kinds are added, of plain ones there is 1."""
    once = once_kinds(declarations)
    counts = {}
    for stock in stocks:
        for kind, count in stock:
            counts[kind] = counts.get(kind, 0) + count if kind in once else 1
    return _stock_from(counts)


def joined(stocks):
    """Return the least stock at or above all of the stocks."""
    counts = {}
    for stock in stocks:
        for kind, count in stock:
            counts[kind] = max(counts.get(kind, 0), count)
    return _stock_from(counts)


def taken(declarations, one, other):
    """Return what is left of a stock if another one is taken from it: plain kinds stay."""
    once = once_kinds(declarations)
    gone = {kind: count for kind, count in other if kind in once}
    return _stock_from({kind: count - gone.get(kind, 0) for kind, count in one})


def without(declarations, one, other):
    """Return a stock less what another one has: plain kinds go, no count becomes less than 0."""
    gone = dict(other)
    return _stock_from({kind: count - gone.get(kind, 0) for kind, count in one})


def stock_of(declarations, kinds):
    """Return the stock of names of these kinds; num and truth count for nothing."""
    return added(declarations, [((kind, 1),) for kind in kinds if kind not in ("num", "truth")])


def least_of(stocks):
    """Return the least ones of stocks."""
    scale = Scale((), [stocks], 1)
    return scale.stocks_of(scale.least(scale.numbers_of(stocks)))


def is_met(lot, stock):
    """Tell whether a stock is at or above some member of a lot."""
    return any([is_above(stock, member) for member in lot])


def sums_of(declarations, lots):
    """Return the least ones of all sums of one member of each lot."""
    scale = Scale(once_kinds(declarations), lots, len(lots))
    return scale.stocks_of(scale.least(scale.sums([scale.numbers_of(lot) for lot in lots], [])))


def sums_within(declarations, lots, stock):
    """Return those of the least sums of one member of each lot which a stock is at or above."""
    scale = Scale(once_kinds(declarations), [*lots, [stock]], len(lots))
    return scale.stocks_of(scale.sums_within([scale.numbers_of(lot) for lot in lots], scale.number_of(stock)))


def joins_of(lots):
    """Return the least ones of all that come by joining one member of each lot."""
    scale = Scale((), lots, 1)
    return scale.stocks_of(scale.least(scale.joins([scale.numbers_of(lot) for lot in lots], [])))


def is_least_lot(declarations, thing):
    """Tell whether any value is a lot of stocks, none of which is at or above another one."""
    if not isinstance(thing, tuple) or not all([is_stock(declarations, member) for member in thing]):
        return False
    scale = Scale((), [thing], 1)
    return thing == scale.stocks_of(scale.least(scale.numbers_of(thing)))


def _stock_from(counts):
    return tuple([(kind, counts[kind]) for kind in sorted(counts) if counts[kind] > 0])


class Scale:
    """Stocks held as numbers, so that very many of them can be compared.

    Each kind has a count in a part of the number of its own. The highest bit of each part is 0, a guard: where it
    is set ahead of a subtraction, it stays just in those parts from which no more is taken than they have.
    """

    def __init__(self, once, lots, most):
        """Prepare for stocks of some lots, and for all that comes by adding up at most so many of them."""
        self.kinds = sorted({kind for stocks in lots for stock in stocks for kind, _ in stock})
        counts = [count for stocks in lots for stock in stocks for _, count in stock]
        # So wide that a part could hold all counts of a stock together.
        self.width = (max([1, *counts]) * max(most, 1) * max(len(self.kinds), 1)).bit_length() + 1
        self.places = {kind: at * self.width for at, kind in enumerate(self.kinds)}
        self.part = (1 << self.width) - 1
        self.guards = sum([1 << (place + self.width - 1) for place in list(self.places.values())])
        self.once_parts = sum([self.part << self.places[kind] for kind in self.kinds if kind in once])

    def number_of(self, stock):
        """Return the number of a stock."""
        return sum([count << self.places[kind] for kind, count in stock])

    def numbers_of(self, stocks):
        """Return the list of the numbers of stocks."""
        return [self.number_of(stock) for stock in stocks]

    def stock_of_number(self, number):
        """Return the stock of a number."""
        return _stock_from({kind: (number >> self.places[kind]) & self.part for kind in self.kinds})

    def stocks_of(self, numbers):
        """Return the lot of the stocks of numbers."""
        return tuple(sorted([self.stock_of_number(number) for number in numbers]))

    def less(self, one, other):
        """Return one less other, where no count becomes less than 0."""
        rest = (one | self.guards) - other
        guards = rest & self.guards
        return rest & (guards - (guards >> (self.width - 1)))

    def joined(self, one, other):
        """Return the greater count of each kind."""
        return self.less(one, other) + other

    def added(self, one, other):
        """Return the sum, for plain kinds, whose counts are 0 and 1, the greater count."""
        both = one | other
        return (one & self.once_parts) + (other & self.once_parts) + (both - (both & self.once_parts))

    def is_met(self, lot, number):
        """Tell whether a number is at or above some number of a lot."""
        raised = number | self.guards
        for low in lot:
            if (raised - low) & self.guards == self.guards:
                return True
        return False

    def least(self, numbers):
        """Return the list of the least ones of numbers."""
        return self.least_few(numbers, None)

    def least_few(self, numbers, most):
        """Return the list of the least ones of numbers, which may be at most so many."""
        found, lower, size = [], [], 0
        # What is at or above another number counts more in all: so it comes later, and what is found stays found.
        for total, number in sorted([(self.total_of(number), number) for number in sorted(set(numbers))]):
            if total > size:
                lower, size = list(found), total
            if not self.is_met(lower, number):
                found.append(number)
                if most is not None and len(found) > most:
                    raise TooMany(most)
        return found

    def total_of(self, number):
        """Return all counts of a number together: the sum of its parts, as that of digits by casting out nines."""
        return number % self.part

    def not_met(self, lot, numbers):
        """Return the list of those numbers that are at or above none of a lot."""
        return [number for number in numbers if not self.is_met(lot, number)]

    def sums(self, lots, low):
        """Return sums of one number of each lot, all least ones among them, but for those at or above one of low."""
        found = self.not_met(low, [0])
        for lot in lots:
            # What is at or above one of low stays so, whatever is added.
            pairs = sorted({self.added(one, other) for one in self.least(found) for other in lot})
            found = self.not_met(low, pairs)
        return found

    def sums_within(self, lots, high):
        """Return the least ones of those sums of one number of each lot that a number is at or above."""
        found = [0]
        for lot in lots:
            # What a sum is made of is not greater than the sum.
            parts = [number for number in lot if self.is_met([number], high)]
            pairs = sorted({self.added(one, other) for one in found for other in parts})
            found = self.least([number for number in pairs if self.is_met([number], high)])
        return found

    def joins(self, lots, low):
        """Return what comes by joining one number of each lot, likewise."""
        found = self.not_met(low, [0])
        for lot in lots:
            pairs = sorted({self.joined(one, other) for one in self.least(found) for other in lot})
            found = self.not_met(low, pairs)
        return found
