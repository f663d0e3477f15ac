"""[29], and of [8] what can be asked without endings: which rows have names that are enough."""

import random
import unittest

from endsahead.blocks import block_stocks, steps_of
from endsahead.demands import demands, is_met
from endsahead.errors import TooMany
from endsahead.making import least_stocks
from endsahead.right import is_right_row
from endsahead.shower import row_of
from endsahead.stands import can_be_read, function_at, names_at
from endsahead.words import cut, show
from authors import chance_library, rich_library, right_program
from grammar import row_by_chance
from libraries import library_with, library_with_blocks

HEAD = (
    "once k; plain q; plain p; record pair { one: k, two: k } record page { at: p, many: num } choice v { no, ok: k } choice w { sure: p, far: pair } "
    "given f(k, k): q; given h(): v; given make(p): pair; given ask(k, num): num; "
)
# What f gives is q; so two k, or what they are made of, are enough.
FUNCTION = HEAD + "def g(x: k, y: k, z: p, n: num, b: truth): q {"
FURTHER = "let open if else match repeat false num truth and { = : ( + <".split()


def stock(text):
    """Return the stock that a text shows: kinds with blanks between."""
    kinds = text.split()
    return tuple((kind, kinds.count(kind)) for kind in sorted(set(kinds)))


def demand(*alternatives):
    """Return a demand of alternatives, each told as the texts of its stocks."""
    return tuple(sorted({tuple(sorted({stock(text) for text in one})) for one in alternatives}))


def told(text):
    """Return the demands of the row of a text behind HEAD and the begin of a function."""
    return demands(cut(FUNCTION + text))


class TheExample(unittest.TestCase):

    def test_example(self):
        head = "once k ; plain q ; given f ( k , k ) : q ; "
        one = tuple((head + "def g ( x : k , y : k ) : q { if true { let z : k =").split(" "))
        found = [demands(one), demands((*one, "x", ";")), demands((*one, "x", ";", "}"))]
        self.assertEqual(found, [((((("k", 2),),),),), ((((("k", 2),),),),), ((((("k", 1),),),),)])
        self.assertIs(is_met(one, demands(one)[0]), True)
        self.assertIs(is_met((*one, "x", ";"), demands((*one, "x", ";"))[0]), True)
        self.assertIs(is_met((*one, "x", ";", "}"), demands((*one, "x", ";", "}"))[0]), False)
        two = tuple((head + "def g ( x : k ) :").split(" "))
        self.assertEqual([demands(two), demands((*two, "k")), demands((*two, "q"))], [(), ((((("k", 1),),),),), ((((("k", 1),),),),)])
        self.assertEqual([is_met((*two, "k"), demands((*two, "k"))[0]), is_met((*two, "q"), demands((*two, "q"))[0])], [True, False])
        three = tuple((head + "choice v { no , ok : k } given h ( ) : v ; given done ( k ) : q ; def u ( ) : q { match v h ( ) {").split(" "))
        self.assertEqual([demands(three), is_met(three, demands(three)[0])], [((((),), ((), (("k", 1),))),), False])


class NoFunction(unittest.TestCase):

    def test_no_demands(self):
        texts = ["", "plain", "once k ;", "record r { a :", "given f ( num", "def", "def g", "def g ( x : k", "def g ( x : k ) :", "def g ( ) : num { give 1 ; }", "def g ( ) : num { give 1 ; } plain"]
        for text in texts:
            self.assertEqual(demands(cut("once k; " + text if text else "")), (), text)

    def test_no_tables_are_needed(self):
        ahead = row_of(library_with(61))
        for text in ["", "plain m ;", "def g", "def g ( s : q ) :"]:
            self.assertEqual(demands((*ahead, *text.split())), (), text)

    def test_tables_are_needed(self):
        ahead = row_of(library_with(61))
        with self.assertRaises(TooMany) as caught:
            demands((*ahead, *"def g ( s : q ) : q { give".split()))
        self.assertEqual(caught.exception.most, 60)
        words = (*row_of(library_with_blocks(61)), *"def g ( s : q ) : q {".split())
        self.assertEqual(demands(words), (demand(["q"]),))
        with self.assertRaises(TooMany):
            is_met(words, demands(words)[0])
        words = (*row_of(library_with_blocks(60)), *"def g ( s : v0 ) : q {".split())
        self.assertIs(is_met(words, demands(words)[0]), True)


class Finishes(unittest.TestCase):

    def test_where_a_statement_may_begin(self):
        head = HEAD + "def g(x: k, y: k, z: p, n: num, b: truth): q"
        self.assertEqual([demands(cut(head)), demands(cut(head + "{"))], [(demand(["k k p"]),)] * 2)
        texts = {
            "let u : k = x ;": "k k p", "let u : q = f ( x , y ) ;": "p q", "if b {": "k k p", "if ask ( x , 1 ) < 2 {": "k p", "if b { let u : num = ask ( x , 1 ) ; }": "k p", "if b { let u : q = f ( x , y ) ;": "p q",
            "if b { let u : num = ask ( x , 1 ) ; if b {": "k p", "let u : num = 1 ;": "k k p", "if b { let u : k = x ; }": "k p", "repeat 2 { }": "k k p", "repeat ask ( x , 1 ) { }": "k p", "if b { } else { }": "k k p",
            "open pair { u , t } = make ( z ) ;": "k k k k p", "if b { give f ( x , y ) ; }": "k k p", "if b { give f ( x , y ) ; } let": "k k p",
        }
        for text, wanted in texts.items():
            self.assertEqual(told(text), (demand([wanted]),), text)

    def test_behind_a_give(self):
        for text in ["give f ( x , y ) ;", "if b { give f ( x , y ) ;", "let u : q = f ( x , y ) ; give u ;", "if b { give f ( x , y ) ; } else { give f ( x , y ) ; }"]:
            self.assertEqual(told(text), (((),),), text)

    def test_give(self):
        met, none = ((),), ()
        texts = {"give": met, "give f": met, "give f (": met, "give f ( x": met, "give f ( x ,": met, "give f ( x , y": met, "give f ( x , y )": met, "let u : k = x ; give": met, "let u : num = ask ( x , 1 ) ; give": met}
        texts.update({"let u : num = ask ( x , 1 ) ; let t : num = ask ( y , 1 ) ; give": met, "give f ( x , (": met, "give f ( make": met, "let u : k = x ; give f ( y ,": met})
        for text, wanted in texts.items():
            self.assertEqual(told(text), (wanted,), text)
        bare = "once k; plain q; given f(k, k): q; given ask(k): num; def g(x: k, y: k): q {"
        texts = {"give": met, "give f ( x ,": met, "let u : num = ask ( x ) ; give": none, "let u : num = ask ( x ) ; give f": none, "let u : num = ask ( x ) ; give f ( y ,": none, "if ask ( x ) < 1 { give": none}
        for text, wanted in texts.items():
            self.assertEqual(demands(cut(bare + text)), (wanted,), text)

    def test_let(self):
        for text in ["let", "let u", "let u :"]:
            self.assertEqual(told(text), (demand(["k k p"]),), text)
        texts = {
            "let u : num": ["k k p"], "let u : num =": ["k k p"], "let u : truth = b": ["k k p"], "let u : k": ["k k p", "k k k p"], "let u : k =": ["k k p", "k k k p"], "let u : k = x": ["k k p"], "let u : p = z": ["k k p"],
            "let u : p =": ["k k p"], "let u : q": ["k k p q", "p q"], "let u : q = f": ["k k p q", "p q"], "let u : q = f (": ["k k p q", "p q"], "let u : q = f ( x": ["k p q", "p q"],
            "let u : q = f ( x ,": ["k p q", "p q"], "let u : q = f ( x , y": ["p q"], "let u : num = ask (": ["k p", "k k p"], "let u : num = ask ( x": ["k p"], "let u : num = ask ( x , 1 +": ["k p"],
            "let u : v": ["k k p v"], "let u : v = ok": ["k p v", "k k p v"], "let u : v = ok (": ["k p v", "k k p v"], "let u : v = ok ( x": ["k p v"], "let u : v = no": ["k k p v"],
        }
        for text, wanted in texts.items():
            self.assertEqual(told(text), (demand(*[[one] for one in wanted]),), text)

    def test_let_with_fields(self):
        bare = "once k; record r { a: k, b: k } plain q; given f(k, k): q; def g(x: r, y: k): q {"
        texts = {
            "let u : k": [["k r"], ["k k"]], "let u : k = x": [["k k"]], "let u : k = x .": [["k k"]], "let u : k = x . a": [["k k"]], "let u : k = y": [["k r"]], "let u : r =": [["k r"]],
            "let u : q": [["q"]], "let u : q = f ( x": [["q"]], "let u : q = f ( x . a ,": [["q"]], "let u : q = f ( y": [["q"]],
        }
        for text, wanted in texts.items():
            self.assertEqual(demands(cut(bare + text)), (demand(*wanted),), text)

    def test_open(self):
        # A pair is made of two k, or of p, which stays.
        for text in ["open", "open pair", "open pair {", "open pair { u", "open pair { u , t }", "open pair { u , t } =", "open pair { u , t } = pair {"]:
            self.assertEqual(told(text), (demand(["k k k k p"], ["k k p"]),), text)
        self.assertEqual(told("open page"), (demand(["k k p"]),))
        self.assertEqual(told("open pair { u , t } = pair { x ,"), (demand(["k k k p"], ["k k p"]),))
        self.assertEqual(told("open pair { u , t } = make ( z"), (demand(["k k k k p"]),))
        self.assertEqual(told("open pair { u , t } = make ( z )"), (demand(["k k k k p"]),))

    def test_open_alone_counts_each_record_ahead(self):
        bare = "once k; once l; record r { a: k } record s { b: l, c: num } given m(l, l): r; def g(x: l, y: r, z: l): k {"
        self.assertEqual(demands(cut(bare + "open")), (demand(["k l l"], ["k r"], ["l l r"]),))
        self.assertEqual(demands(cut(bare + "open r")), (demand(["k l l"], ["k r"]),))
        self.assertEqual(demands(cut(bare + "open s")), (demand(["l l r"]),))
        self.assertEqual(demands(cut("once k; record r { a: k } def g ( ) : k { open")), ((),))
        self.assertEqual(demands(cut("once k; def g ( ) : k { open")), ((),))

    def test_if_and_repeat(self):
        texts = {"if": ["k k p"], "if 1 <": ["k k p"], "if ask (": ["k p", "k k p"], "if ask ( x": ["k p"], "if ask ( x , 1 ) < ask (": ["p", "k p"], "if b": ["k k p"], "repeat": ["k k p"], "repeat ask (": ["k p", "k k p"]}
        for text, wanted in texts.items():
            self.assertEqual(told(text), (demand(*[[one] for one in wanted]),), text)

    def test_match(self):
        self.assertEqual(told("match v"), (demand(["k k p"], ["k k p", "k k k p"]),))
        self.assertEqual(told("match v h"), (demand(["k k p"], ["k k p", "k k k p"]),))
        self.assertEqual(told("match v h ( )"), (demand(["k k p"], ["k k p", "k k k p"]),))
        self.assertEqual(told("match v ok (")[0], demand(["k p"], ["k p", "k k p"], ["k k p"], ["k k p", "k k k p"]))
        self.assertEqual(told("match v ok ( x"), (demand(["k p"], ["k p", "k k p"]),))
        self.assertEqual(told("match w"), (demand(["k k p"], ["k k p", "k k p pair"], ["p"], ["p", "p pair"]),))

    def test_match_alone_counts_each_choice_ahead(self):
        self.assertEqual(told("match"), (demand(["k k p"], ["k k p", "k k k p"], ["k k p", "k k p pair"], ["p"], ["p", "p pair"]),))
        bare = "once k; choice c { a: k } once l; choice d { e: l, h, i: num } def g(x: c, y: d): k {"
        self.assertEqual(demands(cut(bare + "match")), (demand(["d"], ["d k"], ["c d"], ["c d l", "c d"]),))
        self.assertEqual(demands(cut(bare + "match c")), (demand(["d"], ["d k"]),))
        self.assertEqual(demands(cut("once k; choice c { a: k } def g ( ) : k { match")), ((),))

    def test_sums_of_least_stocks(self):
        bare = "once k; once l; once m; plain q; given t(l): k; given u(m): k; given f(k, k, k): q; "
        begin = bare + "def g(a: k, b: l, c: l, d: m): q { let s : q = f ("
        self.assertEqual(demands(cut(begin)), (demand(["l q"], ["m q"], ["k q"]),))
        self.assertEqual(demands(cut(begin + "a ,")), (demand(["l q"], ["m q"]),))
        self.assertEqual(demands(cut(begin + "t ( b ) , t (")), (demand(["k q"], ["m q"]),))
        self.assertEqual(demands(cut(begin + "t ( b ) , t ( c ) ,")), (demand(["m q"], ["k q"]),))
        self.assertEqual(demands(cut(begin + "t ( b ) , t ( c ) , u (")), (demand(["k q"]),))
        self.assertEqual(demands(cut(bare + "def g(a: k, b: l): q { let s : q = f (")), ((),))

    def test_many_kinds_to_come(self):
        head = "once a; once b; once c; once k; given fa(a): k; given fb(b): k; given fc(c): k; given f(k, k, k): k; "
        parameters = ", ".join(f"{kind}{at}: {kind}" for kind in "abc" for at in range(8))
        deep = cut(head.replace("given f(k, k, k): k;", "plain q; given f(q, k, k): q;") + f"def g({parameters}, s: q): q {{ let t: q =" + " f (" * 12)
        found = demands(deep)
        self.assertEqual([len(found), all(len(one) == 1 for one in found[0])], [1, True])
        self.assertEqual(found, (demand(["q"]),))


    def test_very_many_alternatives(self):
        kinds = "abcdef"
        head = "".join(f"once {kind}; " for kind in kinds) + "plain q; " + "".join(f"given m{kind}({kind}): a; " for kind in "bcdef") + "given f(q, a, a): q; "
        parameters = ", ".join(f"{kind}{at}: {kind}" for kind in kinds for at in range(4))
        found = demands(cut(head + f"def g({parameters}, s: q): q {{ let t: q =" + " f (" * 10))
        self.assertEqual([len(found), len(found[0]), len(set(found[0]))], [1, 126, 126])
        self.assertTrue(all(sum(count for kind, count in one[0] if kind != "q") == 4 for one in found[0]))


class Others(unittest.TestCase):

    def test_first_blocks_that_gave_and_that_did_not(self):
        texts = {
            "if b { } else": [["k k p"], ["k k p"]], "if b { } else {": [["k k p"], ["k k p"]], "if b { let u : num = ask ( x , 1 ) ; } else {": [["k p"], ["k k p"]], "if b { give f ( x , y ) ; } else {": [["k k p"]],
            "if ask ( x , 1 ) < 2 { let u : num = ask ( y , 1 ) ; } else {": [["p"], ["k p"]], "if b { let u : k = x ; } else { let t : k =": [["k p"], ["k k p", "k k k p"]],
            "if b { let u : num = ask ( x , 1 ) ; } else { give": [["k p"], None], "if b { give f ( x , y ) ; } else { give f (": [None], "if b { let u : p = z ; } else {": [["k k p"], ["k k p"]],
        }
        for text, wanted in texts.items():
            made = tuple(((),) if one is None else demand(*[[other] for other in one]) for one in wanted)
            self.assertEqual(told(text), made, text)

    def test_one_within_another(self):
        text = "if b { let u : num = ask ( x , 1 ) ; } else { let t : k = x ; if b { let u : num = ask ( y , 1 ) ; } else {"
        self.assertEqual(told(text), (demand(["k p"]), demand(["k p"]), demand(["k k p"])))
        text = "if b { let u : num = ask ( x , 1 ) ; } else { if b { give f ( x , y ) ; } else { if b { let u : num = ask ( y , 1 ) ; } else {"
        self.assertEqual(told(text), (demand(["k p"]), demand(["k p"]), demand(["k k p"])))

    def test_names_of_the_block_around_count(self):
        text = "if b { let u : k = x ; if b { let t : num = ask ( u , 1 ) ; } else {"
        self.assertEqual(told(text), (demand(["k p"]), demand(["k k p"])))

    def test_behind_the_other(self):
        self.assertEqual(told("if b { let u : num = ask ( x , 1 ) ; } else { }"), (demand(["k p"]),))
        self.assertEqual(told("if b { give f ( x , y ) ; } else { let u : num = ask ( x , 1 ) ; }"), (demand(["k p"]),))


class Matches(unittest.TestCase):

    def test_between_cases(self):
        self.assertEqual(told("match v h ( ) {"), (demand(["k k p"], ["k k p", "k k k p"]),))
        self.assertEqual(told("match v h ( ) { no { give f ( x , y ) ; }"), (demand(["k k p"], ["k k k p"]),))
        self.assertEqual(told("match v h ( ) { no { let u : num = ask ( x , 1 ) ; }"), (demand(["k p"]),))
        self.assertEqual(told("match v h ( ) { no { } ok t { }"), (demand(["k k p"]),))
        self.assertEqual(told("match v h ( ) { no { give f ( x , y ) ; } ok t { give f ( x , y ) ; }"), (demand(["k k p"], []),))
        self.assertEqual(told("match v h ( ) { no { give f ( x , y ) ; } ok t { let u : num = ask ( x , 1 ) ; }"), (demand(["k p"]),))
        self.assertEqual(told("match v ok ( x ) {"), (demand(["k p"], ["k p", "k k p"]),))
        self.assertEqual(told("match w sure ( z ) {"), (demand(["k k p"], ["k k p", "k k p pair"]),))
        self.assertEqual(told("match v h ( ) { no { let u : num = ask ( x , 1 ) ; } ok t { let u : num = ask ( y , 1 ) ; }"), (demand(["p"]),))

    def test_within_a_case(self):
        both = demand(["k k p"], ["k k k p"])
        self.assertEqual(told("match v h ( ) { no"), (both, demand(["k k p"])))
        self.assertEqual(told("match v h ( ) { no {"), (both, demand(["k k p"])))
        self.assertEqual(told("match v h ( ) { no { let u : num = ask ( x , 1 ) ;"), (both, demand(["k p"])))
        self.assertEqual(told("match v h ( ) { no { give f (")[1], ((),))
        self.assertEqual(told("match v h ( ) { no { } ok"), (demand(["k k p"]), demand(["k k k p"])))
        self.assertEqual(told("match v h ( ) { no { } ok t"), (demand(["k k p"]), demand(["k k k p"])))
        self.assertEqual(told("match v h ( ) { no { } ok t {"), (demand(["k k p"]), demand(["k k k p"])))
        self.assertEqual(told("match v h ( ) { no { give f ( x , y ) ; } ok t {"), (demand(["k k p"], []), demand(["k k k p"])))
        self.assertEqual(told("match v h ( ) { no { let u : num = ask ( x , 1 ) ; } ok t {"), (demand(["k p"]), demand(["k k k p"])))
        self.assertEqual(told("match w sure ( z ) { sure t"), (demand(["k k p"], ["k k p pair"]), demand(["k k p"])))
        self.assertEqual(told("match w sure ( z ) { sure"), (demand(["k k p"], ["k k p pair"]), demand(["k k p"])))

    def test_a_part_that_counts_as_a_name(self):
        bare = "once k; choice c { a: k } given h(): c; def g(): k { match c h ( ) { a"
        self.assertEqual([demands(cut(bare)), demands(cut(bare + " t")), demands(cut(bare + " t {"))], [(demand([""], []), demand(["k"]))] * 3)
        self.assertEqual(is_met(cut(bare), demands(cut(bare))[1]), True)

    def test_matches_and_others_in_one_row(self):
        text = "if b { let u : num = ask ( x , 1 ) ; } else { match v h ( ) { no { } ok t { if b { } else { let u : k ="
        wanted = (demand(["k p"]), demand(["k k p"]), demand(["k k k p"]), demand(["k k k p"], ["k k k k p"]))
        self.assertEqual(told(text), wanted)
        text = "match v h ( ) { no { give f ( x , y ) ; } ok t { match w far ( make ( z ) ) {"
        self.assertEqual(told(text), (demand(["k k p"], []), demand(["k k k p"], ["k k k p", "k k k p pair"])))

    def test_matches_behind_one_another(self):
        text = "match v h ( ) { no { let u : num = ask ( x , 1 ) ; } ok t { } } match v h ( ) {"
        self.assertEqual(told(text), (demand(["k p"], ["k p", "k k p"]),))


class Inner(unittest.TestCase):

    def test_in_a_repeat(self):
        outer, met = demand(["k k p"]), ((),)
        for text in ["repeat 2 {", "repeat 2 { let u : p = z ;", "repeat 2 { if b {", "repeat 2 { let u", "repeat 2 { let u : p", "repeat 2 { repeat 2 {", "repeat 2 { if b { } else {"]:
            self.assertEqual(told(text), (outer, met), text)
        for text in ["repeat 2 { match v h ( ) {", "repeat 2 { match v h ( ) { no { }", "repeat 2 { match v h ( ) { no { } ok", "repeat 2 { match v h ( ) { no { } ok t {", "repeat 2 { match", "repeat 2 { open"]:
            self.assertEqual(told(text), (outer, met), text)
        self.assertEqual(told("repeat ask ( x , 1 ) {"), (demand(["k p"]), met))

    def test_statements_that_have_no_finish(self):
        bare = "once k; choice c { a: k } record r { d: k } given f(k, num): num; given h(num): c; def g(x: k, n: num): k { repeat 1 {"
        none = ["let u : k", "let u : k =", "let u : num = f", "let u : num = f (", "give", "if 1 < f (", "let u : c = a", "open", "open r", "let u : r =", "match c a ("]
        for text in none:
            self.assertEqual(demands(cut(bare + text)), (demand(["k"]), ()), text)
        some = ["", "let u :", "let u : num", "let u : num = n", "match c", "match", "match c h ( 1 ) { a", "match c h ( 1 ) { a t { let u : k =", "match c h ( 1 ) { a t { give", "match c h ( 1 ) { a t { give t ;", "let u : c", "if"]
        for text in some:
            self.assertEqual(demands(cut(bare + text)), (demand(["k"]), ((),)), text)
        self.assertEqual(demands(cut(bare + "match c h ( 1 ) { a t { repeat 1 { let u : k =")), (demand(["k"]), ()))

    def test_outer_ones_come_ahead(self):
        text = "if b { let u : num = ask ( x , 1 ) ; } else { match v h ( ) { no { } ok t { repeat 1 { match v h ( ) { no {"
        self.assertEqual(told(text), (demand(["k p"]), demand(["k k p"]), demand(["k k k p"]), ((),)))
        text = "repeat 1 { if b { } else { match v h ( ) { no { let u : q ="
        self.assertEqual(told(text), (demand(["k k p"]), ((),)))

    def test_of_the_outermost_repeat(self):
        text = "let u : k = x ; repeat 1 { open pair { s , t } = make ( z ) ; repeat ask ( s , 1 ) {"
        self.assertEqual(told(text), (demand(["k k p"]), ((),)))


class Met(unittest.TestCase):

    def test_is_met(self):
        words = cut(FUNCTION)
        self.assertEqual([is_met(words, ()), is_met(words, ((),)), is_met(words, demand(["k"])), is_met(words, demand(["k k"]))], [False, True, False, True])
        self.assertEqual([is_met(words, demand(["k"], [])), is_met(words, demand(["k k", "k"])), is_met(words, demand(["k k", "p"])), is_met(words, demand(["k"], ["p", "q"]))], [True, False, True, True])
        self.assertEqual([is_met(words, demand([""])), is_met(words, demand(["p", "pair", "q"])), is_met(words, demand(["v"], [""]))], [False, True, False])

    def test_of_the_kind_of_the_function(self):
        words = cut(HEAD + "def g(x: k): num {")
        self.assertIs(is_met(words, demand([""])), True)
        words = cut(HEAD + "def g(x: k): k {")
        self.assertEqual([is_met(words, demand(["k"])), is_met(words, demand(["q"]))], [True, False])

    def test_behind_the_declarations_ahead(self):
        words = cut("once k; plain q; def e(x: k): q {")
        self.assertIs(is_met(words, demand(["k"])), False)
        words = cut("once k; plain q; given f(k): q; def e(x: k): q {")
        self.assertIs(is_met(words, demand(["k"])), True)
        words = cut("once k; plain q; given f(k): q; def e(x: k): q { give f(x); } plain p; def d(y: k): p {")
        self.assertIs(is_met(words, demand(["k"])), False)

    def test_functions_ahead_are_givens(self):
        words = cut("once k; plain p; def e(z: p, y: k): p { give z; } def d(y: k, z: p): p { let u: p = e(z,")
        self.assertEqual(demands(words), (demand(["p"]),))


class Properties(unittest.TestCase):

    def begins(self, words):
        """Tell whether a row can be read, and all its demands are met."""
        if not can_be_read(words):
            return False
        return all(is_met(words, one) for one in demands(words))

    def test_each_beginning_of_a_right_row_has_all_its_demands_met(self):
        for seed in range(12):
            words, _ = row_by_chance(right_program(seed), random.Random(seed), 2)
            for many in range(len(words) + 1):
                for one in demands(words[:many]):
                    self.assertIs(is_met(words[:many], one), True, words[:many])

    def test_demands_are_lots(self):
        for seed in range(20, 50):
            words = row_of(right_program(seed))
            for many in random.Random(seed).choices(range(len(words)), k=12):
                for one in demands(words[:many]):
                    self.assertEqual(list(one), sorted(set(one)))
                    for alternative in one:
                        self.assertEqual(list(alternative), sorted(set(alternative)))

    def test_where_all_demands_are_met_some_word_leads_on(self):
        ends = 0
        for seed in range(16):
            chance = random.Random(seed)
            words = (*row_of(chance_library(seed, 3, 3) if seed % 2 else rich_library(seed, 5, 4)), *"def f0 (".split())
            limit = len(words) + chance.randint(8, 25)
            for at in range(120):
                if function_at(words) is None and words[-1] == "}":
                    break
                names = [name for name, (_, free) in names_at(words).items() if free]
                pool = [*"} ; ) , give".split(), *names, "0", "true", ".", *FURTHER, *sorted({word for word in words if word[0].isalpha()}), f"new{at}"]
                if len(words) < limit:
                    chance.shuffle(pool)
                found = next((word for word in pool if self.begins((*words, word))), None)
                self.assertIsNotNone(found, show(words))
                words = (*words, found)
            if function_at(words) is None:
                self.assertIs(is_right_row(words), True, show(words))
                ends += 1
        self.assertGreater(ends, 8)

    def test_lots_are_those_of_the_tables(self):
        library = rich_library(4)
        ex = least_stocks(library)
        for kind in ex:
            words = (*row_of(library), "def", "f0", "(", ")", ":", kind)
            self.assertEqual(demands(words), (demand([""]),))
            self.assertIs(is_met(words, demands(words)[0]), () in block_stocks(library, kind))
        self.assertTrue(steps_of(library))


if __name__ == "__main__":
    unittest.main()
