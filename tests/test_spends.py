"""[19]: kinds of E, which blocks give, and what is spent."""

import unittest

from endsahead.reader import read_expression, read_text
from endsahead.spends import gives, kind_of, names_spent, spent_behind
from authors import right_program
from samples import ALL, PAIR

HEAD = (
    "plain ink; once tok; record pair { left: tok, right: num } record page { left: ink, sure: truth } "
    "choice some { none, one: pair } given mint(ink, num): tok; given ask(): truth; given use(tok): num; "
    "def both(s: tok, t: tok): pair { give pair { s, 1 }; } "
)
DECLARATIONS = read_text(HEAD)
SIGHT = {"i": "ink", "t": "tok", "s": "tok", "u": "tok", "p": "pair", "g": "page", "v": "some", "n": "num", "b": "truth"}


def expression(text):
    return read_expression(tuple(text.split()))


def block(text):
    """Return the block that the text shows, without the braces around it."""
    return read_text("def f ( ) : num { " + text + " }")[0][4]


def kind(text, sight=SIGHT):
    return kind_of(DECLARATIONS, sight, expression(text))


def behind(text, spent=(), sight=SIGHT):
    return spent_behind(DECLARATIONS, sight, spent, block(text))


class TheExample(unittest.TestCase):

    def test_example(self):
        head = "once seal; record pair { one: seal, many: num } given stamp(seal): num; "
        declarations, sight = read_text(head), {"n": "num", "p": "pair", "s": "seal"}
        stamp = ("call", "stamp", (("field", ("name", "p"), "one"),))
        self.assertEqual(kind_of(declarations, sight, stamp), "num")
        self.assertIsNone(kind_of(declarations, sight, ("add", ("name", "s"), ("num", 1))))
        pair = ("record", "pair", (("name", "s"), ("field", ("name", "p"), "many")))
        self.assertEqual([names_spent(declarations, sight, pair), kind_of(declarations, sight, ("name", "q"))], [("s", "p"), None])
        right = "def f(s: seal, n: num): num { if n < 1 { let k: num = stamp(s); } else { give n; } give n; }"
        told = read_text(head + right)[3][4]
        self.assertEqual([gives(told), gives(told[:1])], [True, False])
        self.assertEqual(spent_behind(declarations, {"n": "num", "s": "seal"}, (), told), ("s",))


class KindOf(unittest.TestCase):

    def test_each_sort(self):
        kinds = {
            "7": "num", "true": "truth", "false": "truth", "i": "ink", "t": "tok", "n": "num", "v": "some", "none": "some",
            "one ( p )": "some", "mint ( i , 3 )": "tok", "ask ( )": "truth", "use ( t )": "num", "both ( s , t )": "pair",
            "pair { t , 1 }": "pair", "page { i , b }": "page", "p . left": "tok", "p . right": "num", "g . sure": "truth",
            "pair { t , n } . left": "tok", "both ( s , t ) . right": "num", "1 + n": "num", "1 < n": "truth", "b and true": "truth",
            "use ( mint ( i , p . right + 1 ) ) < 2 and g . sure": "truth", "1 + 2 + 3": "num", "( 1 < 2 ) and ( b and b )": "truth",
        }
        for text, wanted in kinds.items():
            self.assertEqual(kind(text), wanted, text)

    def test_a_name_that_cannot_be_seen(self):
        self.assertEqual([kind(name) for name in ("q", "tok", "pair", "some", "mint", "both", "one", "left")], [None] * 8)
        self.assertEqual([kind("t", {}), kind("none", {}), kind("n", {"t": "tok"})], [None, "some", None])

    def test_no_call(self):
        texts = ["f ( )", "tok ( )", "pair ( t , 1 )", "some ( p )", "none ( )", "none ( p )", "t ( )", "left ( )"]
        self.assertEqual([kind(text) for text in texts], [None] * 8)

    def test_no_record(self):
        texts = ["tok { t }", "some { p }", "mint { i , 1 }", "one { p }", "f { 1 }", "ink { i }"]
        self.assertEqual([kind(text) for text in texts], [None] * 6)

    def test_another_many(self):
        texts = ["mint ( i )", "mint ( i , 1 , 1 )", "mint ( )", "ask ( 1 )", "use ( )", "both ( s )", "one ( )", "one ( p , p )"]
        texts += ["pair { t }", "pair { t , 1 , 1 }", "page { i }"]
        self.assertEqual([kind(text) for text in texts], [None] * 11)

    def test_no_field(self):
        texts = ["p . sure", "p . one", "t . left", "n . left", "v . left", "g . right", "none . left", "q . left", "p . left . left"]
        self.assertEqual([kind(text) for text in texts], [None] * 9)

    def test_parts_of_another_kind(self):
        texts = ["mint ( 1 , 1 )", "mint ( i , b )", "use ( i )", "one ( t )", "pair { 1 , t }", "page { i , 1 }", "both ( s , i )"]
        texts += ["b + 1", "1 + t", "b < 1", "1 < b", "1 and b", "b and 1", "t + s", "t < s", "p + 1", "1 < 2 + b"]
        self.assertEqual([kind(text) for text in texts], [None] * 17)

    def test_a_part_that_has_no_kind(self):
        texts = ["q + 1", "use ( q )", "pair { q , 1 }", "b and q", "one ( q )", "use ( use ( 1 ) )", "1 + ( 1 + t )", "q < q"]
        self.assertEqual([kind(text) for text in texts], [None] * 8)

    def test_what_can_be_seen_comes_ahead_of_arms(self):
        self.assertEqual(kind("none", {"none": "num"}), "num")

    def test_deep(self):
        tree, fields = ("num", 1), ("name", "p")
        for _ in range(3000):
            tree, fields = ("add", tree, ("num", 1)), ("field", fields, "left")
        self.assertEqual([kind_of(DECLARATIONS, SIGHT, tree), kind_of(DECLARATIONS, SIGHT, fields)], ["num", None])


class Gives(unittest.TestCase):

    def test_last_statements(self):
        texts = {
            "": False, "give 1 ;": True, "let x : num = 1 ;": False, "open pair { x , y } = p ;": False, "repeat 1 { give 1 ; }": False,
            "if b { give 1 ; }": False, "if b { give 1 ; } else { give 2 ; }": True, "if b { give 1 ; } else { }": False,
            "if b { } else { give 1 ; }": False, "match some v { none { give 1 ; } one x { give 2 ; } }": True,
            "match some v { none { give 1 ; } one x { } }": False, "match some v { none { } one x { give 1 ; } }": False,
            "if b { match some v { none { give 1 ; } one x { if b { give 1 ; } else { give 1 ; } } } } else { give 1 ; }": True,
            "if b { match some v { none { give 1 ; } one x { if b { give 1 ; } } } } else { give 1 ; }": False,
            "let x : num = 1 ; give x ;": True, "give 1 ; let x : num = 1 ;": False, "if b { } give 1 ;": True,
            "if b { let x : num = 1 ; give x ; } else { if b { give 1 ; } give 2 ; }": True, "if b { } else { } ": False,
        }
        for text, wanted in texts.items():
            self.assertIs(gives(block(text)), wanted, text)

    def test_deep(self):
        told = (("give", ("num", 1)),)
        for _ in range(2000):
            told = (("if", ("name", "b"), told, (("give", ("num", 1)),)),)
        self.assertIs(gives(told), True)
        self.assertIs(gives((("repeat", ("num", 1), told),)), False)


class NamesSpent(unittest.TestCase):

    def test_names_in_order(self):
        texts = {
            "t": ("t",), "i": (), "n": (), "none": (), "1": (), "p . left": ("p",), "both ( s , t )": ("s", "t"), "both ( t , s )": ("t", "s"),
            "both ( t , t )": ("t", "t"), "pair { u , p . right + n }": ("u", "p"), "use ( t ) + use ( s ) + n": ("t", "s"),
            "one ( both ( t , mint ( i , use ( s ) ) ) )": ("t", "s"), "use ( u ) < 1 + use ( t ) and b": ("u", "t"), "v": ("v",), "g . sure": (),
        }
        for text, wanted in texts.items():
            self.assertEqual(names_spent(DECLARATIONS, SIGHT, expression(text)), wanted, text)

    def test_arms_are_not_spent(self):
        self.assertEqual(names_spent(DECLARATIONS, {"x": "some"}, expression("none")), ())

    def test_records_are_once_with_their_parts(self):
        declarations = (*DECLARATIONS, ("record", "far", (("a", "page"),)), ("record", "near", (("a", "page"), ("b", "some"))))
        self.assertEqual(names_spent(declarations, {"x": "far"}, ("name", "x")), ())
        self.assertEqual(names_spent(declarations, {"x": "near"}, ("field", ("name", "x"), "a")), ("x",))


class SpentBehind(unittest.TestCase):

    def test_statements_one_behind_another(self):
        texts = {
            "": (), "give use ( t ) ;": ("t",), "let x : tok = t ; give use ( x ) ;": ("t",), "let x : tok = t ; let y : tok = s ;": ("s", "t"),
            "open pair { x , y } = p ; give use ( x ) ;": ("p",), "let x : num = n + n ; give x + x ;": (), "give use ( t ) + use ( u ) ;": ("t", "u"),
        }
        for text, wanted in texts.items():
            self.assertEqual(behind(text), wanted, text)

    def test_twice_on_a_way(self):
        texts = [
            "give use ( t ) + use ( t ) ;", "let x : tok = t ; let y : tok = t ;", "let x : tok = t ; give use ( x ) + use ( x ) ;",
            "open pair { x , y } = p ; let z : tok = x ; let w : tok = x ;", "let x : num = p . right ; let y : num = p . right ;",
            "let x : tok = t ; if b { give use ( t ) ; }", "if use ( t ) < 1 { let x : tok = t ; }", "if use ( t ) < 1 { } else { let x : tok = t ; }",
            "match some one ( p ) { none { } one x { let y : pair = p ; } }", "match some v { none { } one x { let y : pair = x ; let z : pair = x ; } }",
            "repeat use ( t ) { } let x : tok = t ;",
        ]
        for text in texts:
            self.assertIsNone(behind(text), text)

    def test_spent_ahead(self):
        self.assertEqual([behind("", ("s", "t")), behind("let x : tok = u ;", ("s", "t"))], [("s", "t"), ("s", "t", "u")])
        self.assertEqual([behind("let x : tok = t ;", ("t",)), behind("if b { let x : tok = t ; }", ("t",))], [None, None])
        self.assertEqual(behind("if b { give 1 ; } else { give use ( u ) ; }", ("t",)), ("t",))
        self.assertEqual(behind("repeat 1 { let x : tok = mint ( i , 1 ) ; let y : tok = x ; }", ("u",)), ("u",))

    def test_if_without_other(self):
        texts = {
            "if b { let x : tok = t ; }": ("t",), "if b { give use ( t ) ; }": (), "if use ( s ) < 1 { give use ( t ) ; }": ("s",),
            "if b { give use ( t ) ; } let x : tok = t ;": ("t",), "if b { let x : tok = t ; } let y : tok = s ;": ("s", "t"), "if b { }": (),
        }
        for text, wanted in texts.items():
            self.assertEqual(behind(text), wanted, text)
        self.assertIsNone(behind("if b { let x : tok = t ; } let y : tok = t ;"))

    def test_if_with_other(self):
        texts = {
            "if b { let x : tok = t ; } else { let x : tok = s ; }": ("s", "t"), "if b { give use ( t ) ; } else { let x : tok = s ; }": ("s",),
            "if b { let x : tok = t ; } else { give use ( s ) ; }": ("t",), "if b { give use ( t ) ; } else { give use ( s ) ; }": (),
            "if use ( u ) < 1 { give use ( t ) ; } else { give use ( s ) ; }": ("u",), "if b { let x : tok = t ; } else { let x : tok = t ; }": ("t",),
            "if b { give use ( t ) ; } else { } give use ( t ) ;": ("t",), "if b { let x : tok = t ; } else { give use ( t ) ; } give use ( s ) ;": ("s", "t"),
        }
        for text, wanted in texts.items():
            self.assertEqual(behind(text), wanted, text)
        self.assertIsNone(behind("if b { } else { let x : tok = t ; } give use ( t ) ;"))

    def test_match(self):
        texts = {
            "match some v { none { let x : tok = t ; } one y { let x : tok = s ; } }": ("s", "t", "v"), "match some v { none { } one y { let x : pair = y ; } }": ("v",),
            "match some v { none { give use ( t ) ; } one y { let x : tok = s ; } }": ("s", "v"), "match some none { none { } one y { } }": (),
            "match some v { none { give use ( t ) ; } one y { give use ( s ) ; } }": ("v",), "match some one ( p ) { none { let x : tok = t ; } one y { let x : tok = t ; } }": ("p", "t"),
        }
        for text, wanted in texts.items():
            self.assertEqual(behind(text), wanted, text)

    def test_names_made_within_are_left_out(self):
        self.assertEqual(behind("let x : tok = t ; let y : tok = x ; let z : tok = y ;"), ("t",))
        self.assertEqual(behind("if b { let x : tok = t ; let y : tok = x ; } else { let x : tok = s ; let y : tok = x ; } let x : tok = u ; let z : tok = x ;"), ("s", "t", "u"))
        self.assertEqual(behind("match some v { none { } one x { open pair { y , z } = x ; let w : tok = y ; } } open pair { y , z } = p ; give use ( y ) ;"), ("p", "v"))

    def test_repeat(self):
        texts = {
            "repeat 2 { }": (), "repeat use ( t ) { }": ("t",), "repeat 2 { let x : tok = mint ( i , 1 ) ; let y : tok = x ; }": (),
            "repeat 2 { let x : tok = mint ( i , 1 ) ; if b { let y : tok = x ; } }": (), "repeat 2 { give use ( mint ( i , 1 ) ) ; }": (),
            "repeat 2 { open pair { x , y } = pair { mint ( i , 1 ) , 1 } ; if b { give use ( x ) ; } let z : tok = x ; }": (),
            "repeat 2 { match some none { none { } one x { let y : pair = x ; } } }": (), "repeat 2 { let x : num = n ; } give use ( t ) ;": ("t",),
            "repeat 2 { repeat use ( mint ( i , 1 ) ) { let x : tok = mint ( i , 1 ) ; let y : tok = x ; } }": (),
            "repeat 2 { let x : tok = mint ( i , 1 ) ; repeat use ( x ) { } }": (),
        }
        for text, wanted in texts.items():
            self.assertEqual(behind(text), wanted, text)

    def test_names_of_outside_in_a_repeat(self):
        texts = [
            "repeat 2 { let x : tok = t ; }", "repeat 2 { give use ( t ) ; }", "repeat 2 { if b { give use ( t ) ; } }", "repeat 2 { let x : num = p . right ; }",
            "let x : tok = t ; repeat 2 { let y : tok = x ; }", "match some v { none { } one x { repeat 2 { let y : pair = x ; } } }",
            "repeat 2 { let x : tok = mint ( i , 1 ) ; repeat 2 { let y : tok = x ; } }", "repeat 2 { repeat use ( t ) { } }", "repeat 2 { if use ( t ) < 1 { } }",
            "repeat 2 { let x : tok = mint ( i , 1 ) ; if b { repeat 1 { give use ( x ) ; } } }", "repeat 2 { let x : tok = mint ( i , 1 ) ; let y : tok = x ; let z : tok = x ; }",
        ]
        for text in texts:
            self.assertIsNone(behind(text), text)

    def test_behind_a_repeat_outside_is_outside_again(self):
        self.assertEqual(behind("repeat 2 { repeat 2 { let x : tok = mint ( i , 1 ) ; let y : tok = x ; } let x : tok = mint ( i , 1 ) ; let y : tok = x ; } give use ( t ) ;"), ("t",))
        self.assertEqual(behind("repeat 2 { let x : tok = mint ( i , 1 ) ; repeat 2 { } let y : tok = x ; }"), ())

    def test_blocks_of_right_programs(self):
        for seed in range(150):
            program = right_program(seed)
            for index, declared in enumerate(program):
                if declared[0] == "def":
                    found = spent_behind(program[:index], dict(declared[2]), (), declared[4])
                    self.assertTrue(set(found) <= set(dict(declared[2])))

    def test_deep_blocks(self):
        told = (("let", "x", "tok", ("name", "t")),)
        for _ in range(1500):
            told = (("if", ("name", "b"), told, None),)
        self.assertEqual(spent_behind(DECLARATIONS, SIGHT, (), told), ("t",))


class Arguments(unittest.TestCase):

    def test_they_stay(self):
        sight, told = dict(SIGHT), block("let x : tok = t ; open pair { y , z } = p ; if b { let w : tok = s ; }")
        spent_behind(DECLARATIONS, sight, (), told)
        kind_of(DECLARATIONS, sight, expression("p . left"))
        self.assertEqual(list(sight.items()), list(SIGHT.items()))

    def test_samples(self):
        self.assertEqual([kind_of(ALL, {}, ("call", "last", ())), kind_of(ALL, {"x": "far"}, ("field", ("name", "x"), "within"))], ["far", "some"])
        self.assertEqual(names_spent(ALL, {"x": "far", "y": "page"}, ("record", PAIR[1], (("name", "x"), ("name", "y")))), ("x",))


if __name__ == "__main__":
    unittest.main()
