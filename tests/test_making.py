"""[22], [23] and [6]: the least stocks of an E, shapes, and what shows that there is none."""

import unittest

import slow
from endsahead.errors import TooMany
from endsahead.library import kinds_in, library_of
from endsahead.making import (
    first_table, is_closed, is_shape, kind_of_shape, least_stocks, next_table, rules_of, shape_for, shapes_within, shows_none, spent_by,
)
from endsahead.stocks import is_above, is_met
from authors import chance_library, rich_library, right_program
from libraries import ASK, KNOW, MANY, TWO, library_with
from samples import ALL, odd_values


def chance_stocks(declarations, chance_of):
    """Return some stocks of the declared kinds."""
    once = slow.once_of(declarations)
    for seed in range(chance_of):
        yield slow.stock({kind: (seed * (at + 3) // 2) % (3 if once[kind] else 2) for at, kind in enumerate(sorted(once))})


def turned(table):
    """Return a table with its keys in the opposite order."""
    return {kind: table[kind] for kind in [*table][::-1]}


class TheExample(unittest.TestCase):

    def test_rules_and_rounds(self):
        self.assertEqual(rules_of(TWO)[:3], [(("record", "two"), "two", ("k", "k")), (("call", "know"), "p", ("k",)), (("call", "use"), "q", ("p", "p", "num"))])
        self.assertEqual(rules_of(TWO)[4:], [(("field", "two", "a"), "k", ("two",)), (("field", "two", "b"), "k", ("two",))])
        table = next_table(TWO, first_table(TWO))
        self.assertEqual([first_table(TWO)["num"], first_table(TWO)["k"]], [((),), ((("k", 1),),)])
        self.assertEqual([table["p"], table["k"]], [((("k", 1),), (("p", 1),)), ((("k", 1),), (("two", 1),))])
        ex, lot = least_stocks(TWO), ((("k", 1),), (("p", 1),), (("two", 1),))
        self.assertEqual([ex["k"], ex["p"], ex["two"], ex["q"][0], len(ex["q"])], [lot, lot, lot, (("k", 1), ("two", 1)), 5])

    def test_shapes(self):
        ex = least_stocks(TWO)
        shape = shape_for(TWO, "k", (("p", 1),))
        self.assertEqual([shape[0], is_shape(TWO, "k", shape), spent_by(TWO, shape), kind_of_shape(TWO, shape[1])], ["field", True, (("p", 1),), "two"])
        found = [shape_for(TWO, "q", (("k", 1),)), shows_none(TWO, "q", (("k", 1),), ex), shows_none(TWO, "q", (("k", 2),), ex)]
        self.assertEqual(found, [None, True, False])
        table = next_table(TWO, first_table(TWO))
        self.assertEqual([is_closed(TWO, ex), is_closed(TWO, table), is_closed(TWO, {**ex, "q": ((),)})], [True, False, True])
        self.assertIs(is_shape(TWO, "p", ("call", "know", (("num",),))), False)


class Rules(unittest.TestCase):

    def test_all_sorts_in_order(self):
        self.assertEqual(rules_of(ALL), [
            (("record", "pair"), "pair", ("tok", "num")), (("record", "page"), "page", ("ink", "truth", "num")), (("arm", "none"), "some", ()),
            (("arm", "one"), "some", ("pair",)), (("arm", "yes"), "bit", ("page",)), (("arm", "no"), "bit", ()), (("record", "far"), "far", ("some",)),
            (("call", "mint"), "tok", ("ink", "num")), (("call", "ask"), "truth", ()), (("call", "burn"), "num", ("tok", "num")), (("call", "last"), "far", ()),
            (("field", "pair", "left"), "tok", ("pair",)), (("field", "pair", "right"), "num", ("pair",)), (("field", "page", "left"), "ink", ("page",)),
            (("field", "page", "sure"), "truth", ("page",)), (("field", "page", "right"), "num", ("page",)), (("field", "far", "within"), "some", ("far",)),
        ])
        self.assertEqual([rules_of(()), rules_of(ALL[:2])], [[], []])

    def test_new_each_time(self):
        found = rules_of(TWO)
        found.clear()
        self.assertEqual(len(rules_of(TWO)), 6)


class Tables(unittest.TestCase):

    def test_first_table(self):
        self.assertEqual(first_table(()), {"num": ((),), "truth": ((),)})
        table = first_table(ALL)
        self.assertEqual(list(table), sorted(["num", "truth", *kinds_in(ALL)]))
        self.assertEqual([table["far"], table["ink"], table["truth"]], [((("far", 1),),), ((("ink", 1),),), ((),)])

    def test_round_by_round(self):
        chain = (("once", "a"), ("once", "b"), ("plain", "c"), ("given", "f", ("a",), "b"), ("given", "g", ("b", "b"), "c"), ("given", "h", (), "a"))
        rounds = [first_table(chain)]
        for _ in range(4):
            rounds.append(next_table(chain, turned(rounds[-1])))
        a, b, c = (("a", 1),), (("b", 1),), (("c", 1),)
        self.assertEqual([table["a"] for table in rounds], [(a,), ((),), ((),), ((),), ((),)])
        self.assertEqual([table["b"] for table in rounds], [(b,), (a, b), ((),), ((),), ((),)])
        self.assertEqual([table["c"] for table in rounds], [(c,), ((("b", 2),), c), ((("a", 1), ("b", 1)), (("a", 2),), (("b", 2),), c), ((),), ((),)])
        self.assertTrue(all(list(table) == ["a", "b", "c", "num", "truth"] for table in rounds))

    def test_tables_that_are_not_of_the_rounds(self):
        table = {**turned(least_stocks(KNOW)), "k": (), "p": ((("k", 3),),), "num": ()}
        self.assertEqual(next_table(KNOW, table), {"k": (), "num": (), "p": ((("k", 3),),), "q": ((("k", 2),), (("p", 1),), (("q", 1),)), "truth": ((),)})
        self.assertEqual(next_table(KNOW, {**table, "q": ()})["q"], ((("k", 6),),))

    def test_least_stocks(self):
        self.assertEqual(least_stocks(()), {"num": ((),), "truth": ((),)})
        self.assertEqual(least_stocks(KNOW), {
            "k": ((("k", 1),),), "num": ((),), "p": ((("k", 1),), (("p", 1),)), "q": ((("k", 2),), (("p", 1),), (("q", 1),)), "truth": ((),),
        })
        self.assertEqual(least_stocks(ASK)["v"], ((),))
        self.assertEqual([least_stocks(ALL)["tok"], least_stocks(ALL)["far"]], [((("ink", 1),), (("page", 1),), (("pair", 1),), (("tok", 1),)), ((),)])

    def test_functions_count_as_givens(self):
        for seed in range(60):
            program = right_program(seed)
            self.assertEqual([rules_of(program), least_stocks(program)], [rules_of(library_of(program)), least_stocks(library_of(program))])

    def test_the_slow_way(self):
        for seed in range(250):
            declarations = chance_library(seed, 7, 8) if seed % 2 else rich_library(seed)
            wanted = slow.tables(declarations)
            table = first_table(declarations)
            for told in wanted:
                self.assertEqual(table, told, seed)
                table = next_table(declarations, turned(table))
            self.assertEqual(least_stocks(declarations), wanted[-1], seed)
            self.assertLessEqual(len(wanted) - 1, len(kinds_in(declarations)))

    def test_tables_are_new_and_arguments_stay(self):
        table = first_table(TWO)
        kept = dict(table)
        found = next_table(TWO, table)
        self.assertEqual(table, kept)
        found.clear()
        self.assertEqual(len(next_table(TWO, table)), 6)
        ex = least_stocks(TWO)
        ex["k"] = ()
        self.assertEqual(len(least_stocks(TWO)["k"]), 3)


class TooManyMembers(unittest.TestCase):

    def test_just_sixty(self):
        for many in (57, 59, 60):
            self.assertEqual(len(least_stocks(library_with(many))["q"]), many)
            self.assertIsNotNone(shape_for(library_with(many), "q", (("a", 1), ("b", 1), ("k", 1))))

    def test_one_more(self):
        declarations = library_with(61)
        for call in (lambda: least_stocks(declarations), lambda: shape_for(declarations, "k", (("k", 1),)), lambda: shape_for(declarations, "num", ())):
            with self.assertRaises(TooMany) as caught:
                call()
            self.assertEqual(caught.exception.most, 60)

    def test_in_the_round_in_which_it_comes(self):
        for many in (60, 61):
            declarations = library_with(many)
            table = next_table(declarations, first_table(declarations))
            self.assertEqual(len(table["q"]), many - 55)
            if many == 60:
                self.assertEqual(len(next_table(declarations, table)["q"]), 60)
            else:
                with self.assertRaises(TooMany):
                    next_table(declarations, table)

    def test_a_lot_that_becomes_small_later_is_too_many_all_the_same(self):
        chain = (("given", "slow", (), "w"), ("given", "slower", ("w",), "x"), ("given", "slowest", ("x",), "q"))
        with self.assertRaises(TooMany):
            least_stocks((*library_with(61), ("plain", "w"), ("plain", "x"), *chain))
        soon = least_stocks((*library_with(61), ("given", "now", (), "q")))
        self.assertEqual(soon["q"], ((),))

    def test_lots_that_would_be_very_many_on_the_way(self):
        kinds = [("once", f"o{at}") for at in range(6)]
        makers = [("given", f"g{at}", (f"o{at}",), "o0") for at in range(1, 6)]
        declarations = (*kinds, *makers, ("plain", "q"), ("given", "h", ("o0",) * 6, "q"))
        with self.assertRaises(TooMany):
            least_stocks(declarations)
        self.assertEqual(least_stocks((*declarations, ("given", "i", (), "q")))["q"], ((),))

    def test_chains_of_great_counts(self):
        kinds = (("once", "k0"), *[("plain", f"k{at}") for at in range(1, 11)])
        declarations = (*kinds, *[("given", f"f{at}", (f"k{at}",) * 3, f"k{at + 1}") for at in range(10)])
        self.assertEqual([lot[0] for lot in (least_stocks(declarations)["k6"], least_stocks(declarations)["k10"])], [(("k0", 3 ** 6),), (("k0", 3 ** 10),)])
        shape = shape_for(declarations, "k6", (("k0", 3 ** 6),))
        self.assertEqual([is_shape(declarations, "k6", shape), spent_by(declarations, shape)], [True, (("k0", 3 ** 6),)])
        self.assertIsNone(shape_for(declarations, "k6", (("k0", 3 ** 6 - 1),)))


class Shapes(unittest.TestCase):

    def test_each_sort(self):
        pair = ("record", "pair", (("take", "tok"), ("num",)))
        shapes = [
            ("num", ("num",)), ("truth", ("truth",)), ("ink", ("take", "ink")), ("far", ("take", "far")), ("truth", ("call", "ask", ())), ("pair", pair),
            ("tok", ("call", "mint", (("take", "ink"), ("num",)))), ("num", ("call", "burn", (("take", "tok"), ("call", "burn", (("take", "tok"), ("num",)))))),
            ("some", ("arm", "none", None)), ("some", ("arm", "one", pair)), ("bit", ("arm", "yes", ("take", "page"))), ("bit", ("arm", "no", None)),
            ("tok", ("field", pair, "left")), ("num", ("field", ("take", "pair"), "right")), ("truth", ("field", ("take", "page"), "sure")),
            ("some", ("field", ("record", "far", (("field", ("take", "far"), "within"),)), "within")), ("far", ("call", "last", ())),
        ]
        for kind, shape in shapes:
            self.assertIs(is_shape(ALL, kind, shape), True, shape)
            self.assertEqual(kind_of_shape(ALL, shape), kind)
            for other in ("num", "truth", *kinds_in(ALL)):
                self.assertIs(is_shape(ALL, other, shape), other == kind, shape)

    def test_what_is_spent(self):
        pair = ("record", "pair", (("take", "tok"), ("num",)))
        both = ("call", "burn", (("take", "tok"), ("call", "burn", (("call", "mint", (("take", "ink"), ("num",))), ("field", ("take", "pair"), "right")))))
        stocks = {
            ("num",): (), ("truth",): (), ("take", "ink"): (("ink", 1),), ("take", "some"): (("some", 1),), ("arm", "none", None): (), ("arm", "one", pair): (("tok", 1),),
            both: (("ink", 1), ("pair", 1), ("tok", 1)), ("call", "burn", (("take", "tok"), ("field", pair, "right"))): (("tok", 2),),
            ("record", "page", (("field", ("take", "page"), "left"), ("truth",), ("field", ("take", "page"), "right"))): (("page", 1),), ("call", "last", ()): (),
        }
        for shape, stock in stocks.items():
            self.assertEqual(spent_by(ALL, shape), stock)

    def test_what_is_none(self):
        tok, ink, num = ("take", "tok"), ("take", "ink"), ("num",)
        things = [
            ("take", "num"), ("take", "truth"), ("take", "q"), ("take", "mint"), ("take", "none"), ("take",), ("take", "tok", ()), ("take", ["tok"]), ["take", "tok"],
            ("num", 0), ("truth", True), ("call", "mint", (ink,)), ("call", "mint", (ink, num, num)), ("call", "mint", [ink, num]), ("call", "mint", (num, ink)),
            ("call", "mint"), ("call", "mint", (ink, num), ()), ("call", "q", ()), ("call", "pair", (tok, num)), ("call", "one", (("take", "pair"),)), ("call", "none", ()),
            ("call", ["mint"], (ink, num)), ("call", None, ()), ("record", "pair", (tok,)), ("record", "pair", [tok, num]), ("record", "some", ()), ("record", "q", (tok,)),
            ("record", "pair", (tok, tok)), ("record", "pair", (num, tok)), ("record", "pair", (tok, ["num"])), ("record", "pair", (tok, "num")), ("record", "pair", (tok, None)),
            ("arm", "none", ()), ("arm", "none", num), ("arm", "none"), ("arm", "one", None), ("arm", "one", tok), ("arm", "one", (("take", "pair"),)), ("arm", "some", None),
            ("arm", "q", None), ("arm", ["none"], None), ("field", ("take", "pair"), "sure"), ("field", tok, "left"), ("field", ("take", "pair")), ("field", "left", ("take", "pair")),
            ("field", ("take", "pair"), ["left"]), ("field", ("take", "pair"), None), ("field", None, "left"), ("field", "pair", "left"), ("field", ("take", "some"), "none"),
            ("field", ("field", ("take", "pair"), "left"), "left"), ("name", "t"), ("give", num), (), ("call",), ("let", "tok", tok, num), (("take", "tok"),), ("Take", "tok"), ("parts", "pair", (tok, num)), ("give", "mint", (ink, num)), ("field", "pair", (tok, num)), ("arms", "none", None),
            ("field", ("record", "pair", (tok, tok)), "right"), ("arm", "one", ("record", "pair", (("call", "mint", (ink, ink)), num))),
        ]
        for thing in [*things, *odd_values()]:
            for kind in ("num", "truth", *kinds_in(ALL)):
                self.assertIs(is_shape(ALL, kind, thing), False, thing)

    def test_deep(self):
        deep, fields = ("take", "tok"), ("take", "pair")
        for _ in range(38):
            deep = ("field", ("record", "pair", (deep, ("num",))), "left")
        self.assertEqual([is_shape(ALL, "tok", deep), spent_by(ALL, deep), is_shape(ALL, "num", deep)], [True, (("tok", 1),), False])
        for _ in range(38):
            fields = ("field", fields, "left")
        self.assertIs(is_shape(ALL, "tok", fields), False)


class ShapeFor(unittest.TestCase):

    def kinds_within(self, declarations, shape, around=()):
        """Fail if a shape of a declared kind stands within one of the same kind."""
        kind = kind_of_shape(declarations, shape)
        self.assertNotIn(kind, around)
        for part in shapes_within(shape):
            self.kinds_within(declarations, part, around if kind in ("num", "truth") else (*around, kind))

    def test_just_where_a_least_stock_is_met(self):
        for seed in range(120):
            declarations = rich_library(seed) if seed % 4 == 0 else chance_library(seed, 5, 6)
            ex = least_stocks(declarations)
            stocks = [(), *chance_stocks(declarations, 6), *ex[kinds_in(declarations)[0]]]
            for kind in ex:
                for stock in stocks:
                    shape = shape_for(declarations, kind, stock)
                    self.assertIs(shape is not None, is_met(ex[kind], stock))
                    self.assertIs(shows_none(declarations, kind, stock, turned(ex)), shape is None)
                    if shape is not None:
                        self.assertIs(is_shape(declarations, kind, shape), True)
                        self.assertIs(is_above(stock, spent_by(declarations, shape)), True)
                        self.kinds_within(declarations, shape)

    def test_each_member_is_spent_just_so(self):
        for seed in range(60):
            declarations = rich_library(seed)
            ex = least_stocks(declarations)
            for kind in ex:
                for member in ex[kind]:
                    self.assertEqual(spent_by(declarations, shape_for(declarations, kind, member)), member)

    def test_more_than_is_needed(self):
        self.assertEqual([shape_for(ALL, "num", (("tok", 5),)), shape_for((), "truth", ()), shape_for(ALL, "ink", ())], [("num",), ("truth",), None])
        self.assertIsNotNone(shape_for(KNOW, "q", (("k", 7), ("q", 1))))

    def test_equal_arguments_give_equal_results(self):
        for kind in ("k", "p", "q", "two"):
            found = shape_for(TWO, kind, (("k", 4), ("p", 1)))
            least_stocks(MANY)
            self.assertEqual(shape_for(TWO, kind, (("k", 4), ("p", 1))), found)


class Closed(unittest.TestCase):

    def test_ex_and_greater_ones(self):
        ex = least_stocks(TWO)
        for table in (ex, turned(ex), {kind: ((),) for kind in ex}, {**ex, "q": ((("k", 1),), (("p", 1),), (("q", 1),), (("two", 1),))}):
            self.assertIs(is_closed(TWO, table), True)

    def test_what_is_not_closed(self):
        ex = least_stocks(TWO)
        k, p, q, two = (("k", 1),), (("p", 1),), (("q", 1),), (("two", 1),)
        changes = [
            {"k": (k, p)}, {"k": (k,)}, {"k": ()}, {"p": (p, two)}, {"q": ex["q"][:-1]}, {"q": ex["q"][1:]}, {"two": (two,)}, {"num": ()}, {"truth": ()},
            {"num": (k,)}, {"truth": ((), k)}, {"q": ()}, {"two": ((("two", 2),), k, p)},
        ]
        for change in changes:
            self.assertIs(is_closed(TWO, {**ex, **change}), False, change)
            self.assertIs(shows_none(TWO, "q", (), {**ex, **change}), False, change)

    def test_any_value(self):
        ex = least_stocks(TWO)
        k, p, two = (("k", 1),), (("p", 1),), (("two", 1),)
        without_k = {kind: ex[kind] for kind in ex if kind != "k"}
        things = [
            without_k, {**without_k, "l": ex["k"]}, {**ex, "l": ((),)}, {**ex, "use": ()}, {**ex, 0: ()}, {**ex, None: ((),)}, {**ex, "num": [()]}, {**ex, "num": ([],)},
            {**ex, "k": [k, p, two]}, {**ex, "k": ([("k", 1)], p, two)}, {**ex, "k": ((["k", 1],), p, two)}, {**ex, "k": ((("k", True),), p, two)}, {**ex, "k": (p, k, two)},
            {**ex, "k": (k, k, p, two)}, {**ex, "k": (k, (("k", 2),), p, two)}, {**ex, "k": None}, {**ex, "k": k}, {**ex, "k": ((("k", 0),), p, two)}, {**ex, "k": "k"},
            {**ex, "p": (k, (("p", 2),), two)}, {**ex, "p": (k, (("num", 1),), p, two)}, {**ex, "p": ((("k", 1.0),), p, two)}, list(ex.items()), tuple(ex), [ex], (ex,),
        ]
        for thing in [*things, *odd_values()]:
            self.assertIs(is_closed(TWO, thing), False, thing)
            for kind in ("num", "q"):
                self.assertIs(shows_none(TWO, kind, (), thing), False, thing)

    def test_one_of_each_kind(self):
        ex = least_stocks(KNOW)
        for change in ({"k": ()}, {"k": ((("k", 2),),)}, {"k": (), "p": ((("p", 1),),)}):
            self.assertIs(is_closed(KNOW, {**ex, **change}), False, change)
        self.assertIs(is_closed(KNOW, {**ex, "k": ((),), "p": ((),), "q": ((),)}), True)

    def test_tables_with_great_counts(self):
        ex = least_stocks(KNOW)
        great = {**ex, "q": (*ex["q"][:1], (("k", 10 ** 39), ("p", 1)), (("q", 1),))}
        self.assertIs(is_closed(KNOW, great), False)
        self.assertIs(is_closed((("once", "k"), ("given", "f", ("k",), "num")), {"k": ((("k", 1),),), "num": ((),), "truth": ((),)}), True)

    def test_all_rounds_but_the_last_one_are_open(self):
        for seed in range(80):
            declarations = rich_library(seed)
            tables = slow.tables(declarations)
            self.assertEqual([is_closed(declarations, table) for table in tables], [False] * (len(tables) - 1) + [True])

    def test_shows_none(self):
        ex = least_stocks(KNOW)
        stocks = {(("k", 1),): True, (("k", 2),): False, (("p", 1),): False, (): True, (("k", 5), ("q", 1)): False}
        for stock, wanted in stocks.items():
            self.assertIs(shows_none(KNOW, "q", stock, ex), wanted)
        self.assertEqual([shows_none(KNOW, "num", (), ex), shows_none(KNOW, "k", (("p", 1), ("q", 1)), ex)], [False, True])
        self.assertIs(shows_none(KNOW, "q", (), {**ex, "q": ((),)}), False)


if __name__ == "__main__":
    unittest.main()
