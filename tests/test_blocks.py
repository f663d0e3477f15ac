"""[24], [25] and [7]: the least stocks of a block, plans, and what shows that there is none."""

import unittest

import slow
from endsahead.blocks import block_stocks, is_closed_for, is_plan, next_lot, plan_for, rounds_many, shows_no_plan
from endsahead.errors import TooMany
from endsahead.library import kinds_in, library_of
from endsahead.making import least_stocks
from endsahead.reader import read_text
from endsahead.stocks import is_met
from authors import chance_library, rich_library, right_program
from libraries import ASK, KNOW, library_with, library_with_blocks
from samples import ALL, odd_values

K, KK, P, Q = (("k", 1),), (("k", 2),), (("p", 1),), (("q", 1),)
NONE = ("num",)
# Of a, b and c the next one comes only by a call and a match.
ROUNDS = read_text(
    "once a; once b; once c; once d; plain q; choice v { x: b } choice w { y: c } choice u { z: d } "
    "given to(a): v; given tow(b): w; given tou(c): u; given end(d): q;"
)


def turned(table):
    return {kind: table[kind] for kind in [*table][::-1]}


def stocks_for(declarations, ex, many=5):
    """Return some stocks, those of a lot among them."""
    once = slow.once_of(declarations)
    kinds = sorted(once)
    found = [slow.stock({kind: (seed * (at + 2)) % (3 if once[kind] else 2) for at, kind in enumerate(kinds)}) for seed in range(many)]
    return [*found, *ex[kinds[-1]]]


class TheExample(unittest.TestCase):

    def test_example(self):
        ex = least_stocks(KNOW)
        self.assertEqual([ex["q"], block_stocks(KNOW, "q"), rounds_many(KNOW, "q")], [(KK, P, Q), (K, P, Q), 1])
        plan = plan_for(KNOW, "q", K)
        self.assertEqual([is_plan(KNOW, "q", K, plan), plan_for(KNOW, "q", ()), is_plan(KNOW, "q", (), plan)], [True, None, False])
        use = ("call", "use", (("take", "p"), ("take", "p")))
        told = ("let", "p", ("call", "know", (("take", "k"),)), ("give", use))
        self.assertIs(is_plan(KNOW, "q", K, told), True)
        w = block_stocks(KNOW, "q")
        found = [is_closed_for(KNOW, "q", ex, w), is_closed_for(KNOW, "q", ex, ex["q"]), shows_no_plan(KNOW, "q", (), ex, w)]
        self.assertEqual(found, [True, False, True])
        self.assertEqual(next_lot(KNOW, ex, (Q,)), (KK, P, Q))
        self.assertEqual([least_stocks(ASK)["k"], block_stocks(ASK, "k")], [(K,), (K,)])
        self.assertEqual(block_stocks(ASK + (("given", "free", (), "k"),), "k"), ((),))


class Steps(unittest.TestCase):

    def test_let(self):
        ex = {"k": (K,), "num": ((),), "p": (K, P), "truth": ((),)}
        head = read_text("once k; plain p;")
        self.assertEqual(next_lot(head, ex, (P,)), (K, P))
        self.assertEqual(next_lot(head, ex, ((("k", 1), ("p", 1)),)), ((("k", 1), ("p", 1)), KK))
        self.assertEqual([next_lot(head, ex, (K,)), next_lot(head, ex, ((),)), next_lot(head, ex, ())], [(K,), ((),), ()])

    def test_let_of_a_once_kind_lessens_by_one(self):
        ex = {"k": (K, (("l", 1),)), "l": ((("l", 1),),), "num": ((),), "truth": ((),)}
        head = read_text("once k; once l;")
        self.assertEqual(next_lot(head, ex, ((("k", 3),),)), ((("k", 2), ("l", 1)), (("k", 3),)))

    def test_open(self):
        head = read_text("once k; plain p; record r { a: k, b: k, c: p } record s { a: p, b: num }")
        r, s = (("r", 1),), (("s", 1),)
        ex = {"k": (K,), "num": ((),), "p": (P,), "r": (r,), "s": (s,), "truth": ((),)}
        self.assertEqual(next_lot(head, ex, (KK,)), (KK, r))
        self.assertEqual(next_lot(head, ex, ((("k", 3), ("p", 1)),)), ((("k", 1), ("r", 1)), (("k", 3), ("p", 1)), (("k", 3), ("s", 1))))
        self.assertEqual(next_lot(head, ex, (P,)), (P, r, s))

    def test_match(self):
        head = read_text("once k; plain p; choice v { a: k, b: p } choice w { c: k, d } choice u { e: k }")
        v, w, u = (("v", 1),), (("w", 1),), (("u", 1),)
        ex = {"k": (K,), "num": ((),), "p": (P,), "truth": ((),), "u": (u,), "v": (v,), "w": (w,)}
        self.assertEqual(next_lot(head, ex, (K, P)), (K, P, u, v))
        self.assertEqual(next_lot(head, ex, (KK, P)), ((("k", 1), ("u", 1)), (("k", 1), ("v", 1)), KK, P))
        self.assertEqual(next_lot(head, ex, (K,)), (K, u))
        self.assertEqual(next_lot(head, ex, (P,)), (P,))

    def test_parts_that_are_no_names(self):
        head = read_text("once k; choice v { a: num, b: k } record r { a: num, b: truth }")
        ex = least_stocks(head)
        self.assertEqual(next_lot(head, ex, (K,)), (K,))
        self.assertEqual(next_lot(head, ex, ((("r", 1), ("v", 1)),)), ((("r", 1),), (("v", 1),)))

    def test_tables_that_are_not_ex(self):
        for seed in range(60):
            declarations = chance_library(seed, 4, 4)
            table = {kind: ((("k0", 1),),) if at == 2 else lot for at, (kind, lot) in enumerate(slow.tables(declarations)[0].items())}
            lot = slow.least([*table["k0"], *slow.tables(declarations)[-1][kinds_in(declarations)[-1]]])
            wanted = slow.least([*lot, *slow.steps(declarations, table, lot)])
            self.assertEqual(next_lot(declarations, turned(table), lot), wanted)

    def test_a_table_with_an_empty_lot(self):
        self.assertEqual(next_lot(KNOW, {**least_stocks(KNOW), "p": ()}, (P,)), (P,))

    def test_arguments_stay(self):
        ex = least_stocks(KNOW)
        next_lot(KNOW, ex, (P,))
        self.assertEqual(ex, least_stocks(KNOW))


class BlockStocks(unittest.TestCase):

    def test_several_rounds(self):
        self.assertEqual([rounds_many(ROUNDS, kind) for kind in ("a", "v", "b", "c", "d", "q")], [0, 0, 1, 2, 3, 3])
        self.assertEqual(least_stocks(ROUNDS)["q"], ((("d", 1),), Q))
        self.assertEqual(block_stocks(ROUNDS, "q"), tuple(((kind, 1),) for kind in "abcdquvw"))

    def test_num_and_truth(self):
        self.assertEqual([block_stocks(ROUNDS, "num"), block_stocks((), "truth"), rounds_many(ROUNDS, "num")], [((),), ((),), 0])

    def test_all_parts_of_a_record(self):
        head = read_text("once k; once o; plain q; record r { a: k, b: k } given make(o): r; given use(k, k): q;")
        self.assertEqual(least_stocks(head)["q"][1], (("k", 1), ("r", 1)))
        self.assertEqual(block_stocks(head, "q"), (KK, (("o", 1),), Q, (("r", 1),)))

    def test_the_slow_way(self):
        many = 0
        for seed in range(120):
            declarations = rich_library(seed) if seed % 2 else chance_library(seed, 7, 14)
            ex = slow.tables(declarations)[-1]
            for kind in ex:
                if len(ex[kind]) > 7:
                    continue
                wanted = slow.lots(declarations, ex, kind)
                self.assertEqual(block_stocks(declarations, kind), wanted[-1], (seed, kind))
                self.assertEqual(rounds_many(declarations, kind), len(wanted) - 1)
                many += len(wanted) > 2
        self.assertGreater(many, 10)

    def test_functions_count_as_givens(self):
        for seed in range(20):
            program = right_program(seed)
            for kind in kinds_in(program):
                self.assertEqual(block_stocks(program, kind), block_stocks(library_of(program), kind))


class TooManyMembers(unittest.TestCase):

    def fails(self, *calls):
        for call in calls:
            with self.assertRaises(TooMany) as caught:
                call()
            self.assertEqual(caught.exception.most, 60)

    def test_of_ex(self):
        self.assertEqual(len(block_stocks(library_with(60), "q")), 60)
        declarations = library_with(61)
        self.fails(lambda: block_stocks(declarations, "num"), lambda: rounds_many(declarations, "k"), lambda: plan_for(declarations, "k", K))

    def test_of_w(self):
        declarations = library_with_blocks(60)
        self.assertEqual([len(least_stocks(declarations)["q"]), len(block_stocks(declarations, "q")), rounds_many(declarations, "q")], [59, 60, 1])
        self.assertIsNotNone(plan_for(declarations, "q", (("v0", 1),)))
        declarations = library_with_blocks(61)
        ex = least_stocks(declarations)
        self.assertEqual([len(ex["q"]), len(block_stocks(declarations, "k"))], [59, 6])
        self.fails(
            lambda: block_stocks(declarations, "q"), lambda: rounds_many(declarations, "q"), lambda: plan_for(declarations, "q", Q),
            lambda: next_lot(declarations, ex, ex["q"]),
        )


class Plans(unittest.TestCase):

    def test_each_sort(self):
        head = read_text("once k; plain p; plain q; record r { a: k, b: k } choice v { x: k, y, z: num } given ask(p): v; given end(k): p; given both(k, k): q;")
        give = ("give", ("take", "k"))
        plans = [
            ("num", (), ("give", NONE)), ("k", K, give), ("k", (("k", 3), ("p", 1)), give), ("k", (("r", 1),), ("open", "r", ("take", "r"), give)),
            ("q", (("r", 1),), ("open", "r", ("take", "r"), ("give", ("call", "both", (("take", "k"), ("take", "k")))))),
            ("p", K, ("let", "k", ("take", "k"), ("let", "p", ("call", "end", (("take", "k"),)), ("give", ("take", "p"))))),
            ("k", (("k", 1), ("p", 1)), ("match", "v", ("call", "ask", (("take", "p"),)), (give, give, give))),
            ("k", (("k", 1), ("v", 1)), ("match", "v", ("take", "v"), (give, ("let", "k", ("take", "k"), give), give))),
            ("p", (("p", 1), ("v", 1)), ("match", "v", ("take", "v"), (("give", ("call", "end", (("take", "k"),))), ("give", ("take", "p")), ("give", ("take", "p"))))),
        ]
        for kind, stock, plan in plans:
            self.assertIs(is_plan(head, kind, stock, plan), True, plan)
            self.assertIs(is_plan(head, "truth", stock, plan), False, plan)

    def test_stocks_that_are_not_enough(self):
        head = read_text("once k; plain p; plain q; record r { a: k, b: k } choice v { x: k, y } given end(k): p; given both(k, k): q;")
        both, give = ("call", "both", (("take", "k"), ("take", "k"))), ("give", ("take", "k"))
        plans = [
            ("k", (), give), ("k", P, give), ("q", K, ("give", both)), ("q", (("r", 1),), ("give", both)), ("p", K, ("let", "k", ("call", "end", (("take", "k"),)), give)),
            ("q", K, ("let", "k", ("take", "k"), ("give", both))), ("k", (), ("open", "r", ("take", "r"), give)), ("k", (("v", 1),), ("match", "v", ("take", "v"), (give, give))),
            ("k", (("k", 1), ("v", 1)), ("match", "v", ("take", "v"), (give, ("let", "k", ("take", "k"), ("let", "p", ("call", "end", (("take", "k"),)), give))))),
        ]
        for kind, stock, plan in plans:
            self.assertIs(is_plan(head, kind, stock, plan), False, plan)

    def test_plain_kinds_stay_and_once_kinds_go(self):
        head = read_text("once k; plain p; plain q; given know(k): p; given use(p, p): q;")
        use = ("give", ("call", "use", (("take", "p"), ("take", "p"))))
        self.assertIs(is_plan(head, "q", P, ("let", "p", ("take", "p"), ("let", "p", ("take", "p"), use))), True)
        again = ("let", "k", ("take", "k"), ("let", "k", ("take", "k"), ("give", ("take", "k"))))
        self.assertIs(is_plan(head, "k", K, again), True)
        spent = ("let", "p", ("call", "know", (("take", "k"),)), ("let", "p", ("call", "know", (("take", "k"),)), use))
        self.assertEqual([is_plan(head, "q", stock, spent) for stock in (K, KK, (("k", 3),))], [False, True, True])

    def test_any_value(self):
        know, use = ("call", "know", (("take", "k"),)), ("call", "use", (("take", "p"), ("take", "p")))
        right = ("let", "p", know, ("give", use))
        things = [
            [*right], ("let", "p", know, ["give", use]), ("let", "p", know), ("let", "p", know, ("give", use), ()), ("let", "q", know, ("give", use)), ("let", "num", NONE, ("give", use)),
            ("let", "m", know, ("give", use)), ("let", ["p"], know, ("give", use)), ("let", None, know, ("give", use)), ("let", "p", know, (("give", use),)), ("let", "p", know, None),
            ("give",), ("give", use, ()), ("give", [use]), ("give", None), ("take", "q"), use, ("open", "p", know, ("give", use)), ("match", "p", know, (("give", use),)), (),
            ("let", "p", ("take", "q"), ("give", use)), ("let", "p", ["call", "know", (("take", "k"),)], ("give", use)), ("repeat", "p", know, ("give", use)), (["let"], "p", know, ("give", use)),
            (True, "p", know, ("give", use)), ("gives", use), ("let", "p", know, ("give", ("call", "use", [("take", "p"), ("take", "p")]))), ("let", "p", know, ("let", "p", know)),
        ]
        self.assertIs(is_plan(KNOW, "q", KK, right), True)
        for thing in [*things, *odd_values()]:
            self.assertIs(is_plan(KNOW, "q", (("k", 9),), thing), False, thing)
        enough = (("k", 9), ("p", 1), ("q", 1))
        self.assertIs(is_plan(KNOW, "q", enough, ("give", use)), True)
        for thing in [("gives", use), ("take", use), ("let", use), (["give"], use), ("give", [*use]), ["give", use]]:
            self.assertIs(is_plan(KNOW, "q", enough, thing), False, thing)

    def test_any_value_in_a_match(self):
        give = ("give", ("take", "k"))
        right = ("match", "v", ("take", "v"), (give, give))
        stock = (("k", 1), ("v", 1))
        self.assertIs(is_plan(ASK, "k", stock, right), True)
        ways = [(give,), (give, give, give), [give, give], (give, None), (give, [*give]), (give, ("give", NONE)), give, None, (), (give, give[1])]
        for way in ways:
            self.assertIs(is_plan(ASK, "k", stock, ("match", "v", ("take", "v"), way)), False, way)
        self.assertIs(is_plan(ASK, "k", stock, ("match", "yes", ("take", "v"), (give, give))), False)
        self.assertIs(is_plan(ASK, "k", stock, ("let", "v", ("take", "v"), (give, give))), False)

    def test_long_plans(self):
        plan = ("give", ("take", "k"))
        for _ in range(1500):
            plan = ("let", "k", ("take", "k"), plan)
        self.assertEqual([is_plan(KNOW, "k", K, plan), is_plan(KNOW, "k", (), plan), is_plan(KNOW, "q", K, plan)], [True, False, False])


class PlanFor(unittest.TestCase):

    def test_just_where_a_least_stock_is_met(self):
        many = 0
        for seed in range(30):
            declarations = rich_library(seed)
            ex = least_stocks(declarations)
            for kind in ex:
                w = block_stocks(declarations, kind)
                for stock in stocks_for(declarations, ex):
                    plan = plan_for(declarations, kind, stock)
                    self.assertIs(plan is not None, is_met(w, stock))
                    self.assertIs(shows_no_plan(declarations, kind, stock, turned(ex), w), plan is None)
                    if plan is not None:
                        self.assertIs(is_plan(declarations, kind, stock, plan), True)
                        many += plan[0] != "give"
        self.assertGreater(many, 20)

    def test_from_each_member(self):
        for seed in range(60):
            declarations = chance_library(seed, 6, 7)
            for kind in kinds_in(declarations):
                for member in block_stocks(declarations, kind):
                    self.assertIs(is_plan(declarations, kind, member, plan_for(declarations, kind, member)), True)

    def test_several_steps(self):
        plan = plan_for(ROUNDS, "q", (("a", 1),))
        words = []
        while plan[0] != "give":
            words.append(plan[:2])
            plan = plan[3][0]
        self.assertEqual(words, [("match", "v"), ("match", "w"), ("match", "u")])

    def test_many_rounds(self):
        text = "plain p; once k; choice v { x: k } given h(p): v; "
        kinds = ["k", "plain1", "plain2", "plain3", "plain4"]
        for one, other in zip(kinds, kinds[1:]):
            text += f"plain {other}; given to{other}({one}, {one}, {one}): {other}; "
        head = read_text(text)
        self.assertEqual([least_stocks(head)["plain4"][0], rounds_many(head, "plain4")], [(("k", 81),), 4])
        plan = plan_for(head, "plain4", P)
        self.assertIs(is_plan(head, "plain4", P, plan), True)

    def test_matches_within_matches(self):
        text = "plain p; once k; once l; choice v { x: k } given h(p): v; given use(k, k, k): l; given far(l, l, l): l; given end(l, l, l): k; plain q; given last("
        head = read_text(text + "l, l, l): q;")
        ex = least_stocks(head)
        self.assertEqual(block_stocks(head, "q"), slow.lots(head, ex, "q")[-1])
        for member in block_stocks(head, "q"):
            self.assertIs(is_plan(head, "q", member, plan_for(head, "q", member)), True)
        self.assertEqual(rounds_many(head, "q"), len(slow.lots(head, ex, "q")) - 1)
        self.assertGreater(rounds_many(head, "q"), 8)

    def test_num(self):
        self.assertEqual([plan_for((), "num", ()), plan_for(KNOW, "truth", KK)], [("give", ("num",)), ("give", ("truth",))])


class Closed(unittest.TestCase):

    def test_w_and_lower_ones(self):
        ex = least_stocks(KNOW)
        for lot in ((K, P, Q), ((),)):
            self.assertIs(is_closed_for(KNOW, "q", turned(ex), lot), True)
            self.assertEqual(shows_no_plan(KNOW, "q", (), ex, lot), lot != ((),))
        self.assertIs(is_closed_for(KNOW, "k", ex, (K,)), True)
        self.assertEqual([shows_no_plan(KNOW, "k", stock, ex, (K,)) for stock in (P, K, (), KK)], [True, False, True, False])

    def test_what_is_not_closed(self):
        ex = least_stocks(KNOW)
        for lot in ((), (K, P), (K, Q), (P, Q), (KK, P, Q), ((("k", 3),), P, Q), (K,)):
            self.assertIs(is_closed_for(KNOW, "q", ex, lot), False, lot)
            self.assertIs(shows_no_plan(KNOW, "q", (), ex, lot), False, lot)
        lower = {kind: ((),) for kind in ex}
        self.assertEqual([is_closed_for(KNOW, "q", lower, (K, P, Q)), is_closed_for(KNOW, "q", lower, ((),))], [False, True])

    def test_all_rounds_but_the_last_one_are_open(self):
        for seed in range(60):
            declarations = chance_library(seed, 5, 6)
            ex = least_stocks(declarations)
            for kind in kinds_in(declarations):
                lots = slow.lots(declarations, ex, kind)
                found = [is_closed_for(declarations, kind, ex, lot) for lot in lots]
                self.assertEqual(found, [False] * (len(lots) - 1) + [True])

    def test_any_value(self):
        ex, w = least_stocks(KNOW), (K, P, Q)
        lots = [[K, P, Q], (P, K, Q), (K, K, P, Q), (K, KK, P, Q), ([("k", 1)], P, Q), ((["k", 1],), P, Q), ((("k", True),), P, Q), ((("k", 0),), P, Q), (K, (("p", 2),), Q)]
        lots += [(K, (("num", 1),), P, Q), (K, P, Q, ()), {"q": w}, "q", None, (w,), K, (*w, None)]
        for thing in [*lots, *odd_values()]:
            wanted = thing == ((),)
            self.assertIs(is_closed_for(KNOW, "q", ex, thing), wanted, thing)
            self.assertIs(shows_no_plan(KNOW, "q", (), ex, thing), False, thing)
        tables = [{**ex, "q": [*ex["q"]]}, {**ex, "r": ()}, {kind: ex[kind] for kind in ("k", "p", "q", "num")}, {**ex, "k": ()}, {**ex, "p": (P,)}, list(ex), None]
        for thing in [*tables, *odd_values()]:
            self.assertIs(is_closed_for(KNOW, "q", thing, w), False, thing)
            self.assertIs(shows_no_plan(KNOW, "q", (), thing, w), False, thing)

    def test_each_step_counts(self):
        head = read_text("once k; record r { a: k, b: k } plain q; given use(k, k): q;")
        ex = least_stocks(head)
        w = block_stocks(head, "q")
        self.assertIs(is_closed_for(head, "q", ex, w), True)
        self.assertIs(is_closed_for(head, "q", ex, ex["q"]), False)
        choice = read_text("plain p; plain o; choice v { a: p, b: o } plain q; given x(p): q; given y(o): q;")
        ex = least_stocks(choice)
        self.assertEqual([block_stocks(choice, "q"), is_closed_for(choice, "q", ex, ex["q"])], [((("o", 1),), P, Q, (("v", 1),)), False])

    def test_samples(self):
        ex = least_stocks(ALL)
        for kind in kinds_in(ALL):
            self.assertIs(is_closed_for(ALL, kind, ex, block_stocks(ALL, kind)), True)


if __name__ == "__main__":
    unittest.main()
