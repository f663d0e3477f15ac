"""[21]: stocks."""

import random
import unittest

import slow
from endsahead.stocks import (
    added, is_above, is_least_lot, is_met, joined, joins_of, least_of, stock_of, sums_of, sums_within, taken, without,
)
from samples import odd_values

DECLARATIONS = (("once", "k"), ("once", "l"), ("plain", "p"), ("plain", "q"), ("record", "pair", (("x", "k"), ("y", "num"))))
ONCE = slow.once_of(DECLARATIONS)
K, KK, L, P, Q, PAIR = (("k", 1),), (("k", 2),), (("l", 1),), (("p", 1),), (("q", 1),), (("pair", 1),)


def chance_stock(chance, most=3):
    counts = {kind: chance.choice((0, 0, *range(1, most))) if ONCE[kind] else chance.choice((0, 0, 1)) for kind in ONCE}
    return slow.stock(counts)


def chance_lot(chance, many=4):
    return slow.least([chance_stock(chance) for _ in range(chance.randint(0, many))])


class TheExample(unittest.TestCase):

    def test_example(self):
        declarations = (("once", "k"), ("once", "l"), ("plain", "p"), ("record", "pair", (("x", "k"), ("y", "num"))))
        one, two, seen = (("k", 1),), (("k", 2),), (("k", 1), ("p", 1))
        self.assertEqual(added(declarations, [seen, seen, (("l", 1),)]), (("k", 2), ("l", 1), ("p", 1)))
        self.assertEqual([added(declarations, []), joined([two, seen])], [(), (("k", 2), ("p", 1))])
        self.assertEqual([is_above(two, one), is_above(one, two), is_above(two, seen)], [True, False, False])
        self.assertEqual([taken(declarations, seen, one), taken(declarations, seen, (("p", 1),))], [(("p", 1),), (("k", 1), ("p", 1))])
        self.assertEqual([without(declarations, seen, two), without(declarations, seen, (("p", 1),))], [(("p", 1),), (("k", 1),)])
        self.assertEqual(stock_of(declarations, ["k", "num", "p", "k", "p", "pair"]), (("k", 2), ("p", 1), ("pair", 1)))
        self.assertEqual([least_of([two, seen, one, (("l", 3),)]), least_of([]), least_of([(), one])], [((("k", 1),), (("l", 3),)), (), ((),)])
        self.assertEqual([is_met((one,), seen), is_met((), seen)], [True, False])
        self.assertEqual(sums_of(declarations, [(one, (("l", 1),)), (one,)]), ((("k", 1), ("l", 1)), (("k", 2),)))
        self.assertEqual([sums_of(declarations, []), joins_of([(one, (("p", 1),)), (two,)])], [((),), ((("k", 2),),)])


class TwoStocks(unittest.TestCase):

    def test_is_above(self):
        for stock in [(), K, KK, P, (("k", 2), ("p", 1))]:
            self.assertIs(is_above(stock, ()), True)
            self.assertIs(is_above(stock, stock), True)
        self.assertEqual([is_above((), K), is_above(K, L), is_above(K, P), is_above((("k", 3), ("l", 1)), KK)], [False, False, False, True])
        self.assertEqual([is_above((("k", 1), ("p", 1)), (("k", 1), ("q", 1))), is_above((("k", 10 ** 40),), (("k", 10 ** 39),))], [False, True])

    def test_taken(self):
        self.assertEqual([taken(DECLARATIONS, KK, K), taken(DECLARATIONS, KK, KK), taken(DECLARATIONS, P, P)], [K, (), P])
        self.assertEqual(taken(DECLARATIONS, (("k", 3), ("l", 1), ("p", 1)), (("k", 2), ("l", 1), ("p", 1))), (("k", 1), ("p", 1)))
        self.assertEqual([taken(DECLARATIONS, (), ()), taken(DECLARATIONS, PAIR, PAIR), taken(DECLARATIONS, PAIR, ())], [(), (), PAIR])

    def test_without(self):
        self.assertEqual([without(DECLARATIONS, KK, K), without(DECLARATIONS, K, KK), without(DECLARATIONS, P, P)], [K, (), ()])
        self.assertEqual([without(DECLARATIONS, K, L), without(DECLARATIONS, (), K), without(DECLARATIONS, KK, ())], [K, (), KK])
        self.assertEqual(without(DECLARATIONS, (("k", 3), ("p", 1), ("q", 1)), (("k", 1), ("l", 2), ("q", 1))), (("k", 2), ("p", 1)))


class ManyStocks(unittest.TestCase):

    def test_added(self):
        self.assertEqual([added(DECLARATIONS, ()), added(DECLARATIONS, (K,)), added(DECLARATIONS, [P, P, P])], [(), K, P])
        self.assertEqual([added(DECLARATIONS, [K, K, KK]), added(DECLARATIONS, (L, K, PAIR, PAIR))], [(("k", 4),), (("k", 1), ("l", 1), ("pair", 2))])
        self.assertEqual(added(DECLARATIONS, ((), (), (("k", 1), ("p", 1)), (("p", 1), ("q", 1)))), (("k", 1), ("p", 1), ("q", 1)))

    def test_joined(self):
        self.assertEqual([joined([]), joined(()), joined([(), ()]), joined([K]), joined((K, K)), joined([K, KK, L])], [(), (), (), K, K, (("k", 2), ("l", 1))])
        self.assertEqual(joined([(("k", 1), ("l", 3)), (("k", 2), ("p", 1)), P]), (("k", 2), ("l", 3), ("p", 1)))

    def test_stock_of(self):
        self.assertEqual([stock_of(DECLARATIONS, []), stock_of(DECLARATIONS, ("num", "truth")), stock_of(DECLARATIONS, ["q", "q"])], [(), (), Q])
        self.assertEqual(stock_of(DECLARATIONS, ("pair", "k", "pair", "l", "p")), (("k", 1), ("l", 1), ("p", 1), ("pair", 2)))

    def test_least_of(self):
        self.assertEqual([least_of([K, K]), least_of((KK, K, KK)), least_of([L, K])], [(K,), (K,), (K, L)])
        self.assertEqual(least_of([(("k", 2), ("l", 1)), (("k", 1), ("l", 2)), (("k", 2), ("l", 2))]), ((("k", 1), ("l", 2)), (("k", 2), ("l", 1))))
        self.assertEqual([least_of([(), (), K]), least_of(()), least_of([(("k", 10 ** 40),), (("k", 10 ** 40 + 1),)])], [((),), (), ((("k", 10 ** 40),),)])

    def test_is_met(self):
        self.assertEqual([is_met((), ()), is_met(((),), ()), is_met((K,), ()), is_met((KK, L), K), is_met((KK, L), (("k", 1), ("l", 1)))], [False, True, False, False, True])
        self.assertEqual([is_met((K,), K), is_met((K, P), P), is_met((K, P), Q)], [True, True, False])


class Lots(unittest.TestCase):

    def test_sums_of(self):
        self.assertEqual([sums_of(DECLARATIONS, ()), sums_of(DECLARATIONS, [()]), sums_of(DECLARATIONS, [(K,), ()]), sums_of(DECLARATIONS, [(), (K,)])], [((),), (), (), ()])
        self.assertEqual([sums_of(DECLARATIONS, [((),)]), sums_of(DECLARATIONS, [((),), (K,)]), sums_of(DECLARATIONS, ((P,), (P,), (P,)))], [((),), (K,), (P,)])
        self.assertEqual(sums_of(DECLARATIONS, [(K, P), (K, P)]), (KK, P))
        self.assertEqual(sums_of(DECLARATIONS, [(K, L), (K, L)]), ((("k", 1), ("l", 1)), KK, (("l", 2),)))
        self.assertEqual(sums_of(DECLARATIONS, [((("k", 10 ** 40),),), (K,)]), ((("k", 10 ** 40 + 1),),))

    def test_joins_of(self):
        self.assertEqual([joins_of(()), joins_of([()]), joins_of([(K,), ()]), joins_of([((),)]), joins_of([(K,)])], [((),), (), (), ((),), (K,)])
        self.assertEqual([joins_of([(K,), (K,)]), joins_of(((K, P), (K, P)))], [(K,), (K, P)])
        self.assertEqual(joins_of([(KK, L), (K, P)]), ((("k", 1), ("l", 1)), KK, (("l", 1), ("p", 1))))

    def test_by_chance(self):
        for seed in range(300):
            chance = random.Random(seed)
            lots = [chance_lot(chance) for _ in range(chance.randint(0, 3))]
            stocks = [chance_stock(chance) for _ in range(chance.randint(0, 7))]
            one, other = chance_stock(chance), chance_stock(chance)
            self.assertIs(is_above(one, other), slow.above(one, other))
            self.assertEqual(least_of(stocks), slow.least(stocks))
            self.assertEqual([added(DECLARATIONS, stocks), joined(stocks)], [slow.added(ONCE, stocks), slow.joined(stocks)])
            self.assertEqual(without(DECLARATIONS, one, other), slow.without(one, other))
            self.assertEqual(sums_of(DECLARATIONS, lots), slow.sums(ONCE, lots))
            wanted = slow.least([slow.joined(chosen) for chosen in slow.product(*lots)])
            self.assertEqual(joins_of(tuple(lots)), wanted)
            both = added(DECLARATIONS, [one, other])
            self.assertEqual(added(DECLARATIONS, [taken(DECLARATIONS, both, other), other]), both)

    def test_sums_within(self):
        lots, both = [(K, L), (K, L)], (("k", 1), ("l", 1))
        self.assertEqual([sums_within(DECLARATIONS, lots, stock) for stock in (KK, both, (("k", 2), ("l", 1)), K, ())], [(KK,), (both,), (both, KK), (), ()])
        self.assertEqual([sums_within(DECLARATIONS, [], ()), sums_within(DECLARATIONS, [()], KK), sums_within(DECLARATIONS, [((),), (P,)], P)], [((),), (), (P,)])
        for seed in range(200):
            chance = random.Random(seed)
            lots = [chance_lot(chance) for _ in range(chance.randint(0, 3))]
            stock = chance_stock(chance, 5)
            self.assertEqual(sums_within(DECLARATIONS, lots, stock), tuple(one for one in slow.sums(ONCE, lots) if slow.above(stock, one)))

    def test_lots_of_very_many_members(self):
        lot = tuple((("k", at), ("l", 900 - at)) for at in range(1, 900))
        self.assertEqual(least_of([*lot, *lot[::-1]]), lot)
        self.assertEqual(len(sums_of(DECLARATIONS, [lot[:90], (K, L)])), 91)

    def test_arguments_stay(self):
        stocks, lots = [KK, K, ()], [(K, L), (K,)]
        for call in (least_of, joined):
            call(stocks)
        added(DECLARATIONS, stocks), sums_of(DECLARATIONS, lots), joins_of(lots)
        self.assertEqual([stocks, lots], [[KK, K, ()], [(K, L), (K,)]])


class LeastLots(unittest.TestCase):

    def test_of_any_value(self):
        for thing in [(), ((),), (K,), (K, L), (K, L, P), ((("k", 1), ("l", 2)), KK)]:
            self.assertIs(is_least_lot(DECLARATIONS, thing), True, thing)
        for thing in [(L, K), (K, K), (K, KK), ((), K), [K], (list(K),), ((("k", True),),), ((("k", 0),),), ((("p", 2),),), ((("m", 1),),), K, (("k", 1), ("l", 1))]:
            self.assertIs(is_least_lot(DECLARATIONS, thing), False, thing)
        for thing in odd_values():
            self.assertIs(is_least_lot(DECLARATIONS, thing), thing in ((), ((),)), thing)


if __name__ == "__main__":
    unittest.main()
