"""[18], and [5]."""

import random
import unittest

from endsahead.errors import NoTree, NoWord, Wrong
from endsahead.reader import needless, read_expression, read_program, read_text
from endsahead.shower import row_of, row_of_expression, show_program
from endsahead.trees import is_expression, is_program, parts_of
from endsahead.words import cut, is_row, show
from grammar import row_by_chance, where_it_ends
from samples import ALL, chance_expression, chance_program, odd_values

HEAD = "def f ( ) : num { "
A, B, C, ONE = ("name", "a"), ("name", "b"), ("name", "c"), ("num", 1)
SOME_WORDS = tuple("{ } ( ) , : ; = + < . and let give if else match repeat true num a r v 0 def open".split())


def row(text):
    return tuple(text.split())


def index(read, words):
    """Return the index that NoTree tells, None if there is none."""
    try:
        read(words)
    except NoTree as error:
        return error.index
    return None


def statement(text):
    """Return the one statement of the block of a function that the text shows."""
    return read_text(HEAD + text + " }")[0][4][0]


class TheExample(unittest.TestCase):

    def test_program(self):
        text = "once seal; choice maybe { none, some: seal } given stamp(seal, num): num; def f(s: seal, n: num): num { "
        text += "if n < 2 { match maybe some(s) { none { give 0; } some t { give stamp(t, n + (1)); } } } else { give n; } }"
        program = read_text(text)
        head = (("once", "seal"), ("choice", "maybe", (("none", None), ("some", "seal"))), ("given", "stamp", ("seal", "num"), "num"))
        self.assertEqual([program[:3], len(program)], [head, 4])
        block = program[3][4]
        self.assertEqual(block[0][:2], ("if", ("less", ("name", "n"), ("num", 2))))
        self.assertEqual(block[0][2][0][:3], ("match", "maybe", ("call", "some", (("name", "s"),))))
        give = ("give", ("call", "stamp", (("name", "t"), ("add", ("name", "n"), ("num", 1)))))
        self.assertEqual(block[0][2][0][3][1], ("some", "t", (give,)))
        self.assertEqual(is_program(program), True)
        self.assertEqual(parts_of(block[0][2][0][2]), (("name", "s"),))
        self.assertEqual(read_program(row_of(program)), program)
        lines = ["def f ( s : seal , n : num ) : num {", "  if n < 2 {", "    match maybe some ( s ) {", "      none {", "        give 0 ;"]
        lines += ["      }", "      some t {", "        give stamp ( t , n + 1 ) ;", "      }", "    }", "  } else {", "    give n ;", "  }", "}"]
        self.assertEqual(show_program(program).split("\n")[3:], lines)

    def test_expressions(self):
        self.assertEqual(read_expression(("a", "{", "b", ".", "f", "}")), ("record", "a", (("field", B, "f"),)))
        self.assertEqual(needless(row("def f ( ) : num { give ( ( 1 ) + 2 ) ; }")), (8, 9))
        self.assertIs(is_expression(("num", -1)), False)

    def test_no_trees(self):
        rows = [("plain", "a", "b"), ("plain", "a"), row("def f ( ) : num { if a { )"), row("given g ( ) : num {")]
        self.assertEqual([index(read_program, words) for words in rows], [2, 2, 10, 6])


class Expressions(unittest.TestCase):

    def test_each_operand(self):
        found = [read_expression(row(text)) for text in ("0", "999999999", "true", "false", "a", "f ( )", "r { 1 }", "( a )")]
        wanted = [("num", 0), ("num", 999999999), ("truth", True), ("truth", False), A, ("call", "f", ()), ("record", "r", (ONE,)), A]
        self.assertEqual(found, wanted)
        self.assertEqual(read_expression(row("f ( a , r { 1 , g ( b ) } )")), ("call", "f", (A, ("record", "r", (ONE, ("call", "g", (B,)))))))

    def test_levels(self):
        self.assertEqual(read_expression(row("a + b + c")), ("add", ("add", A, B), C))
        self.assertEqual(read_expression(row("a and b and c")), ("and", ("and", A, B), C))
        self.assertEqual(read_expression(row("a . b . c")), ("field", ("field", A, "b"), "c"))
        self.assertEqual(read_expression(row("a + b . c")), ("add", A, ("field", B, "c")))
        self.assertEqual(read_expression(row("a + b < c + a")), ("less", ("add", A, B), ("add", C, A)))
        self.assertEqual(read_expression(row("a < b and c < a")), ("and", ("less", A, B), ("less", C, A)))
        self.assertEqual(read_expression(row("( a + b ) . c")), ("field", ("add", A, B), "c"))
        self.assertEqual(read_expression(row("a + ( b and c )")), ("add", A, ("and", B, C)))
        self.assertEqual(read_expression(row("( a < b ) < c")), ("less", ("less", A, B), C))
        self.assertEqual(read_expression(row("r { a } . b . c + 1")), ("add", ("field", ("field", ("record", "r", (A,)), "b"), "c"), ONE))
        self.assertEqual(read_expression(row("1 . a")), ("field", ONE, "a"))

    def test_needless_brackets_leave_no_trace(self):
        self.assertEqual(read_expression(row("( ( ( a ) ) ) + ( ( 1 ) )")), ("add", A, ONE))
        self.assertEqual(read_expression(row("f ( ( ( a ) ) , r { ( b ) } . c )")), read_expression(row("f ( a , r { b } . c )")))

    def test_the_first_word_that_cannot_stand(self):
        texts = {
            "": 0, "+": 0, "a +": 2, "a + +": 2, "a b": 1, "a )": 1, "( a": 2, "( )": 1, "a < b < c": 3, "a < b + c < a": 5, "a .": 2,
            "a . 1": 2, "a . b {": 3, "r {": 2, "r { }": 2, "r { a ,": 4, "r { a , }": 4, "r { a )": 3, "f (": 2, "f ( ,": 2, "f ( a": 3,
            "f ( a , )": 4, "f ( a }": 3, "give": 0, "num": 0, "a and": 2, "a and b and": 4, "( a < b ) < c": None, "a ;": 1, "1 (": 1,
            "1 {": 1, "true {": 1, "f ( ) (": 3, "( a ) (": 3, "r { let": 2, "r { a { }": 4, "a = b": 1, "a : num": 1, "f ( ) {": 3,
        }
        for text, wanted in texts.items():
            self.assertEqual(index(read_expression, row(text)), wanted, text)

    def test_back(self):
        chance = random.Random(18)
        for _ in range(300):
            tree = chance_expression(chance, 5)
            self.assertEqual(read_expression(row_of_expression(tree, 1)), tree)
            for level in range(1, 6):
                self.assertEqual(read_expression(row_of_expression(tree, level)), tree)

    def test_twelve_deep_and_deeper(self):
        for many in (12, 400, 3000):
            self.assertEqual(read_expression(("(",) * many + ("a",) + (")",) * many), A)
            self.assertEqual(index(read_expression, ("(",) * many), many)
            self.assertEqual(index(read_expression, ("(",) * many + ("a",) + (")",) * (many + 1)), 2 * many + 1)
            self.assertEqual(index(read_expression, ("f", "(") * many + (")",) * (many + 1)), 3 * many)
        sum_row = ("a",) + ("+", "b") * 2999
        self.assertEqual(row_of_expression(read_expression(sum_row), 1), sum_row)
        self.assertIs(is_expression(read_expression(("a", *(".", "b") * 2999))), True)


class Programs(unittest.TestCase):

    def test_declarations(self):
        self.assertEqual(read_program(()), ())
        self.assertEqual(read_program(row_of(ALL)), ALL)
        self.assertEqual(read_text("choice c{a,b:num}given g():c;given h(c,num):truth;"), (
            ("choice", "c", (("a", None), ("b", "num"))), ("given", "g", (), "c"), ("given", "h", ("c", "num"), "truth"),
        ))
        self.assertEqual(read_text("def f(a:num,b:f):truth{}"), (("def", "f", (("a", "num"), ("b", "f")), "truth", ()),))

    def test_what_is_not_right_is_read_too(self):
        self.assertEqual(read_text("plain a; plain a; record r{x:b,x:b}"), (("plain", "a"), ("plain", "a"), ("record", "r", (("x", "b"), ("x", "b")))))

    def test_a_name_and_a_brace_ahead_of_a_block(self):
        for word in ("if", "repeat"):
            rest = (None,) if word == "if" else ()
            give = (("give", ONE),)
            cases = {
                "a { }": (A, ()), "a { give 1 ; }": (A, give), "a { b } { }": (("record", "a", (B,)), ()),
                "a { 1 } { give 1 ; }": (("record", "a", (ONE,)), give), "a { true } { }": (("record", "a", (("truth", True),)), ()),
                "a { ( b ) } { }": (("record", "a", (B,)), ()), "1 + a { }": (("add", ONE, A), ()),
                "a + b { give 1 ; }": (("add", A, B), give), "a { b { c } } { }": (("record", "a", (("record", "b", (C,)),)), ()),
                "( a { b } ) { }": (("record", "a", (B,)), ()), "f ( a { b } ) { }": (("call", "f", (("record", "a", (B,)),)), ()),
                "a . b { }": (("field", A, "b"), ()), "( a ) { }": (A, ()), "1 { }": (ONE, ()), "a { b } . c { }": (("field", ("record", "a", (B,)), "c"), ()),
                "a { b } + a { }": (("add", ("record", "a", (B,)), A), ()), "a < b and c { }": (("and", ("less", A, B), C), ()),
            }
            for text, (tree, block) in cases.items():
                self.assertEqual(statement(f"{word} {text}"), (word, tree, block, *rest), text)
            for begin in ("let x : num = 1 ;", "open r { x } = a ;", "if a { }", "match v a { }", "repeat 1 { }", "give 1 ;"):
                found = statement(f"{word} a {{ {begin} }}")
                self.assertEqual([found[1], len(found[2])], [A, 1], begin)

    def test_a_name_and_a_brace_ahead_of_cases(self):
        give = (("give", ONE),)
        ra = ("record", "r", (A,))
        cases = {
            "r { }": (("name", "r"), ()), "r { a { } }": (("name", "r"), (("a", None, ()),)),
            "r { a b { } }": (("name", "r"), (("a", "b", ()),)), "r { a { give 1 ; } b { } }": (("name", "r"), (("a", None, give), ("b", None, ()))),
            "r { a } { }": (ra, ()), "r { a } { a { } }": (ra, (("a", None, ()),)), "r { a , b } { }": (("record", "r", (A, B)), ()),
            "r { a { b } } { }": (("record", "r", (("record", "a", (B,)),)), ()), "r { a ( ) } { }": (("record", "r", (("call", "a", ()),)), ()),
            "r { a + b } { b c { } }": (("record", "r", (("add", A, B),)), (("b", "c", ()),)), "r { a . b } { }": (("record", "r", (("field", A, "b"),)), ()),
            "r { 1 } { }": (("record", "r", (ONE,)), ()), "r { a { ( b ) } } { }": (("record", "r", (("record", "a", (B,)),)), ()),
            "r { a { 1 , b } , c } { }": (("record", "r", (("record", "a", (ONE, B)), C)), ()), "b + r { a { } }": (("add", B, ("name", "r")), (("a", None, ()),)),
            "b . r { a { } }": (("field", B, "r"), (("a", None, ()),)), "( r ) { a { } }": (("name", "r"), (("a", None, ()),)),
            "( r { a } ) { a { } }": (ra, (("a", None, ()),)), "f ( r { a } ) { a { } }": (("call", "f", (ra,)), (("a", None, ()),)),
            "r { a and b } . c { }": (("field", ("record", "r", (("and", A, B),)), "c"), ()), "r { a < b } { }": (("record", "r", (("less", A, B),)), ()),
        }
        for text, (tree, told) in cases.items():
            self.assertEqual(statement(f"match v {text}"), ("match", "v", tree, told), text)
        for begin in ("let x : num = 1 ;", "open r { x } = a ;", "if a { }", "match v a { }", "repeat 1 { }", "give 1 ;"):
            found = statement(f"match v r {{ a {{ {begin} }} }}")
            self.assertEqual([found[2], found[3][0][:2], len(found[3][0][2])], [("name", "r"), ("a", None), 1], begin)

    def test_the_first_word_that_cannot_stand(self):
        texts = {
            "plain": 1, "plain num": 1, "plain a ;": None, "plain a ; b": 3, "a": 0, "give": 0, "}": 0, "1": 0, "let": 0,
            "record r { }": 3, "record r { a }": 4, "record r { a : }": 5, "record r { a : num , }": 7, "record r { a : num": 6,
            "choice c { }": 3, "choice c { a": 4, "choice c { a :": 5, "choice c { a , }": 5, "choice c { a b": 4, "choice c { a : if": 5,
            "given g ( num , ) : num ;": 5, "given g ( a : num ) : num ;": 4, "given g ( ) num": 4, "given g ( ) : num": 6,
            "given g ( , ) : num ;": 3, "def f ( num )": 3, "def f ( a )": 4, "def f ( a : num , ) : num { }": 7, "def f ( ) : num ;": 6,
            "def f ( ) : num { } }": 8, "def f ( ) : num {": 7, "def f ( ) : num { else": 7, "def f ( ) : num { a": 7, "once once": 1,
            "once a ; once": 4, "def f ( ) : num { } plain": 9, "record r { a : num } ;": 7, "given g ( num num": 4,
        }
        for text, wanted in texts.items():
            self.assertEqual(index(read_program, row(text)), wanted, text)

    def test_the_first_word_of_a_block_that_cannot_stand(self):
        texts = {
            "let num": 1, "let a = 1": 2, "let a : num 1": 4, "let a : num = ;": 5, "let a : num = 1 }": 6, "open r { }": 3, "open r { a , }": 5,
            "open r { a } 1": 5, "open r { a : b": 4, "open num": 1, "if {": 1, "if a ;": 2, "if a { } else ;": 5, "if a { } else if": 5, "if a { } ;": 4,
            "if a { else": 3, "if a { )": 3, "if a {": 3, "if a": 2, "if a { b ;": 4, "if a { b } ;": 5, "if a . b { c": 5, "if ( a {": 4, "if ( a { }": 4,
            "if ( a { let": 4, "if f ( a { }": 5, "if r { a } {": 6, "if 1 { a": 3, "repeat {": 1, "repeat a { } else": 4, "repeat a { b": 4,
            "repeat a { =": 3, "match {": 1, "match v {": 2, "match v": 2, "match v r": 3, "match v r {": 4, "match v r { let": 4, "match v r { )": 4,
            "match v r { a": 5, "match v r { a ;": 5, "match v r { a :": 5, "match v r { a 1": 5, "match v r { a {": 6, "match v r { a { )": 6,
            "match v r { a { ,": 6, "match v r { a { b": 7, "match v r { a { b }": 8, "match v r { a { } }": 8, "match v r { a { } b": 8,
            "match v r { a { } 1": 7, "match v r { a b": 6, "match v r { a b c": 6, "match v r { a b }": 6, "match v r { a b ,": 6, "match v r { a b { c": 7,
            "match v r { a } }": 6, "match v r { a , b } ;": 8, "match v r { 1 {": 5, "match v r { 1 } { 1": 7, "match v ( r { }": 5,
            "match v r { } {": 5, "match v r { a { } } else": 8, "match v x . r { 1": 6, "match v f ( ) { 1": 6, "give ;": 1, "give 1 }": 2, "give a {": 3,
            "give a { }": 3, "give a { let": 3, "give 1 ; 1": 3, "else": 0, "give r { a } ;": 6, "let a : num = r { }": 7, "match v r { a { let": 7,
        }
        begin = len(HEAD.split())
        for text, wanted in texts.items():
            found = index(read_program, row(HEAD + text))
            self.assertEqual(found, begin + wanted, text)
            self.assertEqual(found, where_it_ends(row(HEAD + text), "program"), text)

    def test_all_short_rows_as_the_grammar_has_them(self):
        begins = ("match v r {", "match v r { a {", "if r {", "repeat 1 + r {", "give r {", "if ( r {", "match v ( r ) {")
        for begin in begins:
            waiting = [row(HEAD + begin)]
            while waiting:
                words = waiting.pop()
                wanted = where_it_ends(words, "program")
                self.assertEqual(index(read_program, words), wanted, words)
                if wanted == len(words) and len(words) < len(row(HEAD + begin)) + 3:
                    waiting.extend([(*words, word) for word in row("a { } ( ) 1 give + , ;")])

    def test_broken_rows_as_the_grammar_has_them(self):
        for seed in range(250):
            chance = random.Random(seed)
            words = list(row_of(chance_program(seed)))[:60]
            at = chance.randint(0, len(words))
            words[at:at + chance.randint(0, 1)] = chance.choice([[], [chance.choice(SOME_WORDS)]])
            self.assertEqual(index(read_program, tuple(words)), where_it_ends(tuple(words), "program"), words)

    def test_begins_of_a_row(self):
        words = row_of(ALL)
        whole = [many for many in range(len(words) + 1) if index(read_program, words[:many]) is None]
        self.assertEqual(len(whole), len(ALL) + 1)
        for many in range(len(words)):
            self.assertIn(index(read_program, words[:many]), (None, many))

    def test_twelve_deep(self):
        blocks = HEAD + "if a { repeat b { " * 6 + "give 1 ; " + "} } " * 6 + "}"
        program = read_text(blocks)
        self.assertEqual(row_of(program), row(blocks))
        deep = HEAD + "give " + "( f ( " * 6 + "1" + " ) )" * 6 + " ; }"
        self.assertEqual(row_of(read_text(deep)), row(HEAD + "give " + "f ( " * 6 + "1" + " )" * 6 + " ; }"))

    def test_blocks_far_deeper(self):
        words = row(HEAD) + ("repeat", "1", "{") * 1000 + ("}",) * 1001
        self.assertEqual(row_of(read_program(words)), words)
        self.assertEqual(index(read_program, words[:-1]), len(words) - 1)

    def test_rows_of_400_words(self):
        words = row(HEAD) + ("give", "a", ";") * 130 + ("}",)
        self.assertEqual(len(read_program(words)[0][4]), 130)
        long = row(HEAD) + ("give", "1") + ("+", "1") * 194 + (";", "}")
        self.assertEqual([len(long), row_of(read_program(long)) == long, needless(long)], [399, True, ()])
        self.assertEqual(index(read_program, (*long[:-1], "1", "1")), 398)


class Texts(unittest.TestCase):

    def test_texts(self):
        self.assertEqual([read_text(""), read_text(" \n"), read_text("plain\na;")], [(), (), (("plain", "a"),)])
        self.assertEqual(read_text(show(row_of(ALL))), ALL)
        self.assertEqual(read_text(show_program(ALL)), ALL)

    def test_no_word_comes_ahead_of_no_tree(self):
        for text, place in {"plain plain 01": 12, "} } ?": 4, "A": 0, "plain a; b c d -": 15}.items():
            with self.assertRaises(NoWord) as caught:
                read_text(text)
            self.assertEqual(caught.exception.place, place)
        self.assertEqual([index(read_text, text) for text in ("plain plain", "a", "plain a;b")], [1, 0, 3])


class WrongArguments(unittest.TestCase):

    def test_what_is_no_row(self):
        things = [*odd_values(), ["a"], list(row_of(ALL)), "a", ("a", None), ("plain", "A", ";"), ("07",), ("a", ("b",)), None]
        for thing in things:
            for read in (read_program, read_expression):
                if not is_row(thing):
                    with self.assertRaises(Wrong) as caught:
                        read(thing)
                    self.assertEqual(caught.exception.place, 0)

    def test_wrong_comes_ahead_of_no_tree(self):
        for read in (read_program, read_expression):
            with self.assertRaises(Wrong):
                read((")", ")", "A"))

    def test_what_is_no_string(self):
        for thing in [*odd_values(), ("a",), cut("plain a;"), None, 1, True, [], ["plain a;"]]:
            if not isinstance(thing, str):
                with self.assertRaises(Wrong) as caught:
                    read_text(thing)
                self.assertEqual(caught.exception.place, 0)


class Needless(unittest.TestCase):

    def found(self, text):
        begin = len(row(HEAD))
        return [at - begin for at in needless(row(HEAD + text + " }"))]

    def test_needed_ones(self):
        texts = [
            "give ( a and b ) < c ;", "give a < ( b < c ) ;", "give a + ( b + c ) ;", "give ( a + b ) . c ;", "give ( a < b ) + c ;",
            "give a and ( b and c ) ;", "give ( a < b ) < c ;", "give f ( a , ( b + c ) . d ) ;", "give f ( ) ;", "give r { f ( a ) } ;",
        ]
        self.assertEqual([self.found(text) for text in texts], [[]] * len(texts))

    def test_needless_ones(self):
        texts = {
            "give ( a ) ;": [1], "give ( a and b ) ;": [1], "give ( a and b ) and c ;": [1], "give a and ( b < c ) ;": [3], "give ( a + b ) < ( c ) ;": [1, 7],
            "give ( a + b ) + c ;": [1], "give a + ( b . c ) ;": [3], "give ( a . b ) . c ;": [1], "give ( f ( a ) ) . c ;": [1], "give f ( ( a + b ) , ( c ) ) ;": [3, 9],
            "give r { ( a and b ) } ;": [3], "if ( a ) { }": [1], "repeat ( a and b ) { }": [1], "match v ( r ) { a { } }": [2], "match v ( r { a } ) { }": [2],
            "let x : num = ( 1 ) ;": [5], "open r { x } = ( a ) ;": [6], "give ( 1 ) . a ;": [1], "give ( true ) < ( r { ( 1 ) } ) ;": [1, 5, 8],
        }
        for text, wanted in texts.items():
            self.assertEqual(self.found(text), wanted, text)

    def test_several_directly_round_one_another(self):
        texts = {
            "give ( ( a ) ) ;": [1, 2], "give ( ( ( a + b ) ) ) . c ;": [1, 2], "give ( ( a + b ) ) < c ;": [1, 2], "give a + ( ( b + c ) ) ;": [3],
            "give ( ( a ) + b ) . c ;": [2], "give ( ( a + b ) + c ) . d ;": [2], "give ( ( a < b ) + c ) . d ;": [], "give ( ( ( a < b ) ) + c ) . d ;": [2],
            "give ( ( a + b ) . c ) . d ;": [1], "give ( f ( ( a ) ) ) ;": [1, 4], "give a + ( ( ( b ) + c ) ) ;": [3, 5],
        }
        for text, wanted in texts.items():
            self.assertEqual(self.found(text), wanted, text)

    def test_heads_have_none(self):
        self.assertEqual([needless(()), needless(row_of(ALL))], [(), ()])

    def test_programs_by_chance(self):
        for seed in range(200):
            program = chance_program(seed)
            words, wanted = row_by_chance(program, random.Random(seed), 3)
            self.assertEqual(needless(words), wanted)
            self.assertEqual(read_program(words), program)

    def test_without_them_the_row_is_the_one_that_is_shown(self):
        for seed in range(60):
            words, _ = row_by_chance(chance_program(seed), random.Random(seed), 2)
            gone = {at for opening in needless(words) for at in (opening, closing(words, opening))}
            left = tuple(word for at, word in enumerate(words) if at not in gone)
            self.assertEqual(left, row_of(read_program(words)))
            self.assertEqual(read_program(left), read_program(words))


def closing(words, opening):
    """Return the index of the bracket that closes one."""
    depth = 0
    for at in range(opening, len(words)):
        depth += {"(": 1, ")": -1}.get(words[at], 0)
        if depth == 0:
            return at
    return None


class OneProgramForEachRow(unittest.TestCase):

    def test_rows_of_programs_by_chance_are_read_back(self):
        for seed in range(1000, 1400):
            program = chance_program(seed)
            self.assertEqual(read_program(row_of(program)), program)
            self.assertEqual(read_text(show_program(program)), program)
            self.assertEqual(needless(row_of(program)), ())

    def test_unlike_programs_have_unlike_rows(self):
        programs = [chance_program(seed) for seed in range(400)]
        rows = [row_of(program) for program in programs]
        for program, words in zip(programs, rows):
            self.assertEqual(programs[rows.index(words)], program)


if __name__ == "__main__":
    unittest.main()
