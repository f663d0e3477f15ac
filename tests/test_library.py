"""[14] and [15]."""

import unittest

from endsahead.library import (
    arm_of, arms_of, choice_of, fields_of, fields_with, function_of, is_once, is_stock, kinds_in, library_of, makers,
    once_kinds, plain_kinds, sort_of,
)
from samples import ALL, ASK, BURN, INK, LAST, MINT, PAIR, SOME, TOK, odd_values

NAMELESS = ["", "nothing", "num", "truth", "give", "left", "right", "sure", "within", "t", "n", "Tok", "tok ", "tok\n"]


class TheExample(unittest.TestCase):

    def setUp(self):
        self.pair = ("record", "pair", (("left", "tok"), ("right", "num")))
        self.some = ("choice", "some", (("none", None), ("one", "pair")))
        mint = ("given", "mint", ("ink",), "tok")
        burn = ("def", "burn", (("t", "tok"), ("n", "num")), "num", (("give", ("name", "n")),))
        self.declarations = (("plain", "ink"), ("once", "tok"), self.pair, self.some, mint, burn)

    def test_kinds(self):
        found = [kinds_in(self.declarations), once_kinds(self.declarations), plain_kinds(self.declarations)]
        self.assertEqual(found, [("ink", "pair", "some", "tok"), ("pair", "some", "tok"), ("ink",)])
        self.assertIs(is_once(self.declarations, "num"), False)

    def test_names(self):
        self.assertEqual([sort_of(self.declarations, "one"), sort_of(self.declarations, "left")], ["arm", None])
        self.assertEqual(fields_of(self.declarations, "pair"), (("left", "tok"), ("right", "num")))
        self.assertEqual(arms_of(self.declarations, "some")[1], ("one", "pair"))
        self.assertEqual([arm_of(self.declarations, "none"), choice_of(self.declarations, "one")], [("some", None), "some"])
        self.assertEqual(function_of(self.declarations, "mint"), (("ink",), "tok"))
        self.assertEqual(function_of(self.declarations, "burn"), (("tok", "num"), "num"))

    def test_makers(self):
        first = (("record", "pair", ("tok", "num"), "pair"), ("arm", "none", (), "some"), ("arm", "one", ("pair",), "some"))
        then = (("call", "mint", ("ink",), "tok"), ("call", "burn", ("tok", "num"), "num"))
        self.assertEqual(makers(self.declarations), first + then)
        self.assertEqual(fields_with(self.declarations, "num"), (("pair", "right"),))
        self.assertEqual(library_of(self.declarations)[5], ("given", "burn", ("tok", "num"), "num"))

    def test_stocks(self):
        stocks = [(("ink", 1), ("tok", 3)), (("ink", 2),), (("tok", 1), ("ink", 1)), (("num", 1),)]
        self.assertEqual([is_stock(self.declarations, stock) for stock in stocks], [True, False, False, False])


class WhatIsDeclared(unittest.TestCase):

    def test_sort_of(self):
        sorts = {
            "ink": "plain", "tok": "once", "pair": "record", "page": "record", "some": "choice", "bit": "choice",
            "far": "record", "mint": "given", "ask": "given", "burn": "def", "last": "def",
            "none": "arm", "one": "arm", "yes": "arm", "no": "arm",
        }
        for name, sort in sorts.items():
            self.assertEqual(sort_of(ALL, name), sort, name)
        for name in NAMELESS:
            self.assertIsNone(sort_of(ALL, name), name)
            self.assertIsNone(sort_of((), name), name)
        self.assertIsNone(sort_of(ALL[:4], "some"))

    def test_kinds_in(self):
        self.assertEqual(kinds_in(ALL), ("bit", "far", "ink", "page", "pair", "some", "tok"))
        self.assertEqual([kinds_in(()), kinds_in((MINT, ASK, BURN, LAST)), kinds_in((TOK, INK))], [(), (), ("ink", "tok")])

    def test_fields_and_arms(self):
        self.assertEqual(fields_of(ALL, "page"), (("left", "ink"), ("sure", "truth"), ("right", "num")))
        self.assertEqual([fields_of(ALL, "far"), fields_of(ALL, "pair")], [(("within", "some"),), PAIR[2]])
        self.assertEqual([arms_of(ALL, "some"), arms_of(ALL, "bit")], [SOME[2], (("yes", "page"), ("no", None))])

    def test_arms(self):
        found = [arm_of(ALL, name) for name in ("none", "one", "yes", "no")]
        self.assertEqual(found, [("some", None), ("some", "pair"), ("bit", "page"), ("bit", None)])
        self.assertEqual([choice_of(ALL, name) for name in ("none", "one", "yes", "no")], ["some", "some", "bit", "bit"])
        for name in [*NAMELESS, "some", "bit", "tok", "mint", "burn", "pair"]:
            self.assertIsNone(choice_of(ALL, name), name)

    def test_function_of(self):
        found = [function_of(ALL, name) for name in ("mint", "ask", "burn", "last")]
        wanted = [(("ink", "num"), "tok"), ((), "truth"), (("tok", "num"), "num"), ((), "far")]
        self.assertEqual(found, wanted)

    def test_makers_in_order(self):
        wanted = (
            ("record", "pair", ("tok", "num"), "pair"), ("record", "page", ("ink", "truth", "num"), "page"),
            ("arm", "none", (), "some"), ("arm", "one", ("pair",), "some"),
            ("arm", "yes", ("page",), "bit"), ("arm", "no", (), "bit"), ("record", "far", ("some",), "far"),
            ("call", "mint", ("ink", "num"), "tok"), ("call", "ask", (), "truth"),
            ("call", "burn", ("tok", "num"), "num"), ("call", "last", (), "far"),
        )
        self.assertEqual(makers(ALL), wanted)
        self.assertEqual([makers(()), makers((INK, TOK))], [(), ()])
        self.assertEqual(makers((ASK, SOME, BURN)), (wanted[8], wanted[2], wanted[3], wanted[9]))

    def test_fields_with_in_order(self):
        self.assertEqual(fields_with(ALL, "num"), (("pair", "right"), ("page", "right")))
        self.assertEqual([fields_with(ALL, "truth"), fields_with(ALL, "tok")], [(("page", "sure"),), (("pair", "left"),)])
        self.assertEqual([fields_with(ALL, "some"), fields_with(ALL, "far"), fields_with((), "num")], [(("far", "within"),), (), ()])
        two = ("record", "two", (("b", "num"), ("a", "num"), ("c", "truth")))
        self.assertEqual(fields_with((two, PAIR), "num"), (("two", "b"), ("two", "a"), ("pair", "right")))

    def test_library_of(self):
        library = library_of(ALL)
        self.assertEqual(library[:9], ALL[:9])
        self.assertEqual(library[9:], (("given", "burn", ("tok", "num"), "num"), ("given", "last", (), "far")))
        self.assertEqual([library_of(()), library_of(library)], [(), library])
        for name in ("mint", "ask", "burn", "last"):
            self.assertEqual(function_of(library, name), function_of(ALL, name))
        self.assertEqual(makers(library), makers(ALL))


class OnceAndPlain(unittest.TestCase):

    def test_once_through_parts_of_parts(self):
        self.assertEqual([once_kinds(ALL), plain_kinds(ALL)], [("far", "pair", "some", "tok"), ("bit", "ink", "page")])
        for kind in ("far", "pair", "some", "tok"):
            self.assertIs(is_once(ALL, kind), True)
        for kind in ("bit", "ink", "page", "num", "truth"):
            self.assertIs(is_once(ALL, kind), False)

    def test_all_kinds_are_one_or_the_other(self):
        for many in range(len(ALL)):
            both = once_kinds(ALL[:many]) + plain_kinds(ALL[:many])
            self.assertEqual(tuple(sorted(both)), kinds_in(ALL[:many]))

    def test_no_declarations(self):
        self.assertEqual([once_kinds(()), plain_kinds(()), is_once((), "num"), is_once((), "truth")], [(), (), False, False])

    def test_choices_without_parts(self):
        bare = ("choice", "bare", (("here", None), ("there", None)))
        self.assertEqual([once_kinds((bare,)), plain_kinds((bare,))], [(), ("bare",)])

    def test_a_long_way_to_what_is_once(self):
        chain = [("once", "k0")]
        for many in range(1, 12):
            kind = f"k{many - 1}"
            chain.append(("record", f"k{many}", (("n", "num"), ("k", kind))) if many % 2 else ("choice", f"k{many}", ((f"a{many}", kind),)))
        self.assertEqual(plain_kinds(tuple(chain)), ())
        self.assertEqual(once_kinds((("plain", "k0"), *chain[1:])), ())


class Stocks(unittest.TestCase):

    def test_stocks(self):
        for stock in [(), (("ink", 1),), (("tok", 1),), (("tok", 10 ** 39),), (("bit", 1), ("far", 2), ("ink", 1), ("tok", 9))]:
            self.assertIs(is_stock(ALL, stock), True)
        self.assertIs(is_stock(ALL, tuple((kind, 1) for kind in kinds_in(ALL))), True)
        self.assertIs(is_stock((), ()), True)

    def test_kinds_out_of_order_or_twice(self):
        for thing in [(("tok", 1), ("ink", 1)), (("tok", 1), ("tok", 1)), (("tok", 1), ("tok", 2)), (("ink", 1), ("ink", 1))]:
            self.assertIs(is_stock(ALL, thing), False)

    def test_counts(self):
        for count in [0, -1, True, False, None, "1", (1,), [1], 2.0, {}]:
            self.assertIs(is_stock(ALL, (("tok", count),)), False)
        for count in [0, -1, 2, 3, 10 ** 39, True, None]:
            for kind in ("ink", "page", "bit"):
                self.assertIs(is_stock(ALL, ((kind, count),)), False)

    def test_kinds(self):
        for kind in ["num", "truth", "nothing", "", "mint", "burn", "one", "left", None, True, 0, ("tok",), ["tok"], {"tok": 1}]:
            self.assertIs(is_stock(ALL, ((kind, 1),)), False)
        self.assertIs(is_stock(ALL[:1], (("tok", 1),)), False)

    def test_lists_in_the_place_of_tuples(self):
        for thing in [[], [("tok", 1)], (["tok", 1],), [["tok", 1]], {"tok": 1}, {}, "tok", ("tok", 1), (("tok", 1), None)]:
            self.assertIs(is_stock(ALL, thing), False)
        for thing in [(("tok",),), (("tok", 1, 1),), ((),), (("tok", 1), ()), (((("tok", 1),),),)]:
            self.assertIs(is_stock(ALL, thing), False)

    def test_any_value(self):
        for thing in odd_values():
            self.assertIs(is_stock(ALL, thing), thing == () and isinstance(thing, tuple))


if __name__ == "__main__":
    unittest.main()
