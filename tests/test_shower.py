"""[17]."""

import random
import unittest

from endsahead.reader import read_program
from endsahead.shower import row_of, row_of_block, row_of_expression, show_program
from endsahead.words import cut, is_row
from grammar import row_by_chance
from samples import ALL, chance_program

A, B, C = ("name", "a"), ("name", "b"), ("name", "c")
AND, LESS, ADD, FIELD = ("and", A, B), ("less", A, B), ("add", A, B), ("field", A, "b")
LEVELS = {AND: 1, LESS: 2, ADD: 3, FIELD: 4, ("num", 7): 5, ("truth", True): 5, A: 5, ("call", "f", ()): 5, ("record", "r", (A,)): 5}
BARE = {
    AND: "a and b", LESS: "a < b", ADD: "a + b", FIELD: "a . b", ("num", 7): "7", ("truth", True): "true", A: "a",
    ("call", "f", ()): "f ( )", ("record", "r", (A,)): "r { a }",
}


def text(tree, level=1):
    return " ".join(row_of_expression(tree, level))


class Expressions(unittest.TestCase):

    def test_the_example(self):
        nest = ("and", ("less", ("add", ("num", 1), ("add", A, ("num", 2))), B), ("and", C, ("name", "d")))
        self.assertEqual(text(nest), "1 + ( a + 2 ) < b and ( c and d )")
        self.assertEqual(row_of_expression(("field", ADD, "f"), 4), ("(", "a", "+", "b", ")", ".", "f"))

    def test_words_of_each(self):
        self.assertEqual([text(("num", 0)), text(("num", 999999999))], ["0", "999999999"])
        self.assertEqual([text(("truth", True)), text(("truth", False))], ["true", "false"])
        self.assertEqual(text(("call", "f", (A, ("num", 1), ("call", "g", ())))), "f ( a , 1 , g ( ) )")
        self.assertEqual(text(("record", "r", (A, ("record", "q", (B,))))), "r { a , q { b } }")

    def test_brackets_just_where_the_level_is_less(self):
        for tree, level in LEVELS.items():
            for wanted in range(1, 6):
                bare = BARE[tree] if level >= wanted else "( " + BARE[tree] + " )"
                self.assertEqual(text(tree, wanted), bare)

    def test_each_place_in_an_expression(self):
        places = [
            (("and", None, C), 1, "{} and c"), (("and", C, None), 2, "c and {}"), (("less", None, C), 3, "{} < c"),
            (("less", C, None), 3, "c < {}"), (("add", None, C), 3, "{} + c"), (("add", C, None), 4, "c + {}"),
            (("field", None, "c"), 4, "{} . c"),
        ]
        for whole, wanted, words in places:
            for tree, level in LEVELS.items():
                placed = tuple(tree if part is None else part for part in whole)
                bare = BARE[tree] if level >= wanted else "( " + BARE[tree] + " )"
                self.assertEqual(text(placed), words.format(bare))

    def test_no_brackets_in_arguments_and_parts(self):
        for tree in LEVELS:
            self.assertEqual(text(("call", "f", (tree, tree))), f"f ( {BARE[tree]} , {BARE[tree]} )")
            self.assertEqual(text(("record", "f", (tree,)), 5), f"f {{ {BARE[tree]} }}")

    def test_chains(self):
        self.assertEqual(text(("add", ("add", A, B), C)), "a + b + c")
        self.assertEqual(text(("add", A, ("add", B, C))), "a + ( b + c )")
        self.assertEqual(text(("and", ("and", A, B), C)), "a and b and c")
        self.assertEqual(text(("less", ("less", A, B), C)), "( a < b ) < c")
        self.assertEqual(text(("field", ("field", A, "b"), "c")), "a . b . c")
        self.assertEqual(text(("field", ("and", ("and", A, B), ("and", B, C)), "c"), 4), "( a and b and ( b and c ) ) . c")

    def test_deep_trees(self):
        left = right = A
        for _ in range(3000):
            left, right = ("add", left, B), ("add", B, right)
        self.assertEqual(row_of_expression(left, 3), ("a",) + ("+", "b") * 3000)
        self.assertEqual(row_of_expression(right, 3), ("b", "+") + ("(", "b", "+") * 2999 + ("a",) + (")",) * 2999)


class Statements(unittest.TestCase):

    def words(self, *block):
        words = " ".join(row_of_block(block))
        self.assertEqual((words[:2], words[-2:]), ("{ ", " }"))
        return words[2:-2]

    def test_blocks(self):
        self.assertEqual([row_of_block(()), row_of_block((("give", A),))], [("{", "}"), ("{", "give", "a", ";", "}")])
        self.assertEqual(self.words(("give", A), ("give", B)), "give a ; give b ;")

    def test_each_statement(self):
        give = (("give", C),)
        self.assertEqual(self.words(("let", "x", "num", A)), "let x : num = a ;")
        self.assertEqual(self.words(("open", "r", ("x",), A)), "open r { x } = a ;")
        self.assertEqual(self.words(("open", "r", ("x", "y", "z"), A)), "open r { x , y , z } = a ;")
        self.assertEqual(self.words(("if", A, give, None)), "if a { give c ; }")
        self.assertEqual(self.words(("if", A, (), ())), "if a { } else { }")
        self.assertEqual(self.words(("if", A, give, (("give", B),))), "if a { give c ; } else { give b ; }")
        self.assertEqual(self.words(("match", "v", A, ())), "match v a { }")
        cases = (("x", None, give), ("y", "z", ()))
        self.assertEqual(self.words(("match", "v", A, cases)), "match v a { x { give c ; } y z { } }")
        self.assertEqual(self.words(("repeat", A, give)), "repeat a { give c ; }")

    def test_no_brackets_round_the_expression_of_a_statement(self):
        for tree, words in BARE.items():
            self.assertEqual(self.words(("let", "x", "num", tree)), f"let x : num = {words} ;")
            self.assertEqual(self.words(("open", "r", ("x",), tree)), f"open r {{ x }} = {words} ;")
            self.assertEqual(self.words(("if", tree, (), None)), f"if {words} {{ }}")
            self.assertEqual(self.words(("match", "v", tree, ())), f"match v {words} {{ }}")
            self.assertEqual(self.words(("repeat", tree, ())), f"repeat {words} {{ }}")
            self.assertEqual(self.words(("give", tree)), f"give {words} ;")


class Programs(unittest.TestCase):

    def test_declarations(self):
        wanted = (
            "plain ink ; once tok ; record pair { left : tok , right : num } record page { left : ink , sure : truth , "
            "right : num } choice some { none , one : pair } choice bit { yes : page , no } record far { within : some } "
            "given mint ( ink , num ) : tok ; given ask ( ) : truth ; def burn ( t : tok , n : num ) : num { give n ; } "
            "def last ( ) : far { give far { none } ; }"
        )
        self.assertEqual(row_of(ALL), tuple(wanted.split()))
        self.assertEqual(row_of(()), ())

    def test_programs_by_chance(self):
        for seed in range(150):
            program = chance_program(seed)
            self.assertEqual(row_of(program), row_by_chance(program, random.Random(0), 0)[0])
            self.assertTrue(is_row(row_of(program)))
            self.assertEqual(read_program(row_of(program)), program)


class Lines(unittest.TestCase):

    def lines(self, *block):
        lines = show_program((("def", "f", (), "num", block),)).split("\n")
        self.assertEqual([lines[0], lines[-1]], ["def f ( ) : num {", "}"])
        return lines[1:-1]

    def test_no_declarations(self):
        self.assertEqual(show_program(()), "")

    def test_declarations(self):
        wanted = [
            "plain ink ;", "once tok ;", "record pair { left : tok , right : num }",
            "record page { left : ink , sure : truth , right : num }", "choice some { none , one : pair }",
            "choice bit { yes : page , no }", "record far { within : some }", "given mint ( ink , num ) : tok ;",
            "given ask ( ) : truth ;", "def burn ( t : tok , n : num ) : num {", "  give n ;", "}",
            "def last ( ) : far {", "  give far { none } ;", "}",
        ]
        self.assertEqual(show_program(ALL).split("\n"), wanted)
        self.assertEqual(show_program((("plain", "a"),)), "plain a ;")

    def test_the_example(self):
        cases = (("none", None, (("give", ("num", 0)),)), ("some", "t", (("give", ("add", ("name", "n"), ("num", 1))),)))
        block = (("match", "maybe", ("call", "some", (("name", "s"),)), cases),)
        wanted = [
            "  if n < 2 {", "    match maybe some ( s ) {", "      none {", "        give 0 ;", "      }", "      some t {",
            "        give n + 1 ;", "      }", "    }", "  } else {", "    give n ;", "  }",
        ]
        lines = self.lines(("if", ("less", ("name", "n"), ("num", 2)), block, (("give", ("name", "n")),)))
        self.assertEqual(lines, wanted)

    def test_empty_blocks(self):
        self.assertEqual(show_program((("def", "f", (), "num", ()), ("plain", "a"))), "def f ( ) : num { }\nplain a ;")
        self.assertEqual(self.lines(("if", A, (), None)), ["  if a { }"])
        self.assertEqual(self.lines(("if", A, (), ())), ["  if a { } else { }"])
        self.assertEqual(self.lines(("if", A, (), (("give", B),))), ["  if a { } else {", "    give b ;", "  }"])
        self.assertEqual(self.lines(("if", A, (("give", B),), ())), ["  if a {", "    give b ;", "  } else { }"])
        self.assertEqual(self.lines(("repeat", A, ()), ("give", B)), ["  repeat a { }", "  give b ;"])
        self.assertEqual(self.lines(("match", "v", A, ()), ("give", B)), ["  match v a { }", "  give b ;"])

    def test_matches(self):
        cases = (("x", None, ()), ("y", "z", ()), ("w", None, (("repeat", A, (("give", A),)),)))
        wanted = [
            "  match v a {", "    x { }", "    y z { }", "    w {", "      repeat a {", "        give a ;", "      }", "    }", "  }",
            "  give b ;",
        ]
        self.assertEqual(self.lines(("match", "v", A, cases), ("give", B)), wanted)

    def test_braces_of_records_stay_in_their_line(self):
        record = ("record", "r", (A, ("record", "q", (B,))))
        self.assertEqual(self.lines(("give", record), ("open", "r", ("x", "y"), record)), [
            "  give r { a , q { b } } ;", "  open r { x , y } = r { a , q { b } } ;",
        ])
        self.assertEqual(self.lines(("if", record, (("give", A),), None)), ["  if r { a , q { b } } {", "    give a ;", "  }"])

    def test_an_if_in_another(self):
        inner = ("if", B, (("give", A),), (("give", B),))
        wanted = ["  if a {", "    if b {", "      give a ;", "    } else {", "      give b ;", "    }", "  } else {",
                  "    if b {", "      give a ;", "    } else {", "      give b ;", "    }", "  }"]
        self.assertEqual(self.lines(("if", A, (inner,), (inner,))), wanted)

    def test_twelve_deep(self):
        block = (("give", A),)
        for _ in range(12):
            block = (("repeat", A, block),)
        lines = self.lines(*block)
        self.assertEqual(lines[:12], ["  " * depth + "repeat a {" for depth in range(1, 13)])
        self.assertEqual([lines[12], lines[13:]], ["  " * 13 + "give a ;", ["  " * depth + "}" for depth in range(12, 0, -1)]])

    def test_lines_hold_the_words_of_the_row(self):
        for seed in range(150):
            program = chance_program(seed)
            lines = show_program(program).split("\n")
            self.assertEqual(cut("\n".join(lines)), row_of(program))
            for line in lines:
                words = line.lstrip(" ")
                self.assertEqual((len(line) - len(words)) % 2, 0)
                self.assertEqual(" ".join(cut(words)), words)


if __name__ == "__main__":
    unittest.main()
