"""[16]."""

import unittest

from endsahead.trees import (
    blocks_of, expressions_in, is_block, is_declaration, is_expression, is_program, is_statement, parts_of,
)
from samples import ALL, chance_program, odd_values

A, B, ONE = ("name", "a"), ("name", "b"), ("num", 1)
CALL, RECORD = ("call", "f", (A, ONE)), ("record", "r", (B,))
EXPRESSIONS = [
    A, ONE, ("num", 0), ("num", 999999999), ("truth", True), ("truth", False), ("call", "f", ()), CALL, RECORD,
    ("field", A, "b"), ("field", RECORD, "num1"), ("add", A, ONE), ("less", CALL, B), ("and", A, ("and", B, A)),
    ("add", ("and", A, B), ("less", A, B)), ("call", "f", (CALL, RECORD, ("truth", False))), ("field", ONE, "x"),
]
NO_EXPRESSIONS = [
    ("num", -1), ("num", 1000000000), ("num", True), ("num", False), ("num", "1"), ("num", None), ("num",), ("num", 1, 1),
    ("truth", 1), ("truth", 0), ("truth", None), ("truth", "true"), ("truth",), ("truth", True, True),
    ("name", "give"), ("name", "num"), ("name", "A"), ("name", ""), ("name", None), ("name", ("a",)), ("name",),
    ("name", "a", "b"), ("call", "f"), ("call", "f", [A]), ("call", "f", A), ("call", "f", (A, None)), ("call", "if", ()),
    ("call", "f", (), ()), ("call", "f", (["name", "a"],)), ("call", ("f",), ()), ("record", "r", ()), ("record", "r"),
    ("record", "r", [B]), ("record", "r", (B, "b")), ("record", "once", (B,)), ("record", "r", (B,), None),
    ("field", A), ("field", "a", A), ("field", A, "and"), ("field", A, 1), ("field", A, None), ("field", None, "a"),
    ("field", A, "b", "c"), ("field", A, A), ("add", A), ("add", A, B, A), ("add", A, None), ("add", [A, B]), ("add",),
    ("less", A, ["name", "b"]), ("and", A, "b"), ("or", A, B), ("and", ("num", -1), A), ("sub", ONE, ONE), (A, B), (A,),
    ["name", "a"], ("give", A), ("let", "a", "num", A), "a", ("Name", "a"), (None, "a"), (True, A, B), (["name"], "a"),
    ("record", "r", (("a", "num"),)), (("num",), 1), ("name a",), ({}, 1), ("E", "a"),
]
BLOCK = (("give", A),)
STATEMENTS = [
    ("let", "a", "num", ONE), ("let", "a", "truth", A), ("let", "a", "b", CALL), ("open", "r", ("a",), A),
    ("open", "r", ("a", "a", "b"), RECORD), ("if", A, (), None), ("if", A, BLOCK, ()), ("if", A, (), BLOCK),
    ("match", "v", A, ()), ("match", "v", A, (("one", "x", BLOCK), ("none", None, ()), ("one", "x", ()))),
    ("repeat", ONE, ()), ("repeat", ONE, BLOCK), ("give", A), ("if", A, (("if", A, (("repeat", A, BLOCK),), None),), None),
]
NO_STATEMENTS = [
    ("let", "a", "num"), ("let", "a", ONE), ("let", "let", "num", ONE), ("let", "a", "give", ONE), ("let", "a", None, ONE),
    ("let", "a", "num", None), ("let", "a", "num", ONE, ONE), ("let", "a", "num", ("num", -1)), ("let", "a", ("b",), ONE),
    ("open", "r", (), A), ("open", "r", ["a"], A), ("open", "r", "a", A), ("open", "r", ("a", "if"), A),
    ("open", "r", ("a", None), A), ("open", "num", ("a",), A), ("open", "r", ("a",)), ("open", "r", ("a",), A, A),
    ("open", "r", (("a",),), A), ("if", A, ()), ("if", A, None, ()), ("if", A, None, None), ("if", A, [], None),
    ("if", A, (), []), ("if", A, (), None, None), ("if", A, (A,), None), ("if", None, (), None), ("if", A, (), True),
    ("match", "v", A), ("match", "v", A, None), ("match", "v", A, []), ("match", "v", A, (("one", ()),)),
    ("match", "v", A, (("one", "x", None),)), ("match", "v", A, (["one", None, ()],)), ("match", "give", A, ()),
    ("match", "v", A, (("num", None, ()),)), ("match", "v", A, (("one", "num", ()),)), ("match", "v", A, ((),)),
    ("match", "v", A, (("one", None, (), ()),)), ("match", "v", A, (("one", None, [BLOCK]),)), ("match", "v", A, (BLOCK,)),
    ("match", "v", None, ()), ("repeat", ONE), ("repeat", ONE, None), ("repeat", ONE, [BLOCK]), ("repeat", ONE, (), ()),
    ("repeat", (), ()), ("repeat", ONE, ("give", A)), ("give",), ("give", None), ("give", A, A), ("give", "a"),
    ["give", A], A, ("while", A, ()), ("plain", "a"), (), (("give", A),), ("give", ("give", A)), ("Give", A),
]
DECLARATIONS = [
    *ALL, ("record", "r", (("a", "num"), ("a", "num"))), ("choice", "c", (("a", None),)), ("given", "f", (), "num"),
    ("given", "f", ("truth", "num", "b"), "c"), ("def", "f", (), "num", ()), ("def", "f", (("a", "f"),), "truth", BLOCK),
    ("choice", "c", (("c", "c"), ("c", None))), ("plain", "z" * 20),
]
NO_DECLARATIONS = [
    ("plain",), ("plain", "num"), ("plain", "a", "b"), ("plain", None), ("plain", ("a",)), ("once", ""), ("once", "A"),
    ("once", "z" * 21), ("once", True), ("record", "r", ()), ("record", "r"), ("record", "r", [("a", "num")]),
    ("record", "r", (["a", "num"],)), ("record", "r", (("a",),)), ("record", "r", (("a", None),)), ("record", "r", (A, "b")),
    ("record", "r", (("a", "num", "b"),)), ("record", "r", (("num", "a"),)), ("record", "r", (("a", "give"),)),
    ("record", "r", (("a", "num"), None)), ("record", "if", (("a", "num"),)), ("record", "r", (("a", "num"),), ()),
    ("choice", "c", ()), ("choice", "c"), ("choice", "c", [("a", None)]), ("choice", "c", (["a", None],)),
    ("choice", "c", (("a",),)), ("choice", "c", (("a", ()),)), ("choice", "c", ("a",)), ("choice", "c", (("a", True),)),
    ("choice", "c", (("true", None),)), ("choice", "c", (("a", None, None),)), ("given", "f", ()), ("given", "f", "num"),
    ("given", "f", ["num"], "num"), ("given", "f", ("num", None), "num"), ("given", "f", ((),), "num"),
    ("given", "f", (), None), ("given", "f", (), "let"), ("given", "f", (("a", "num"),), "num"), ("given", "f", "num", "num"),
    ("given", "f", (), "num", ()), ("def", "f", (), "num"), ("def", "f", (), "num", None), ("def", "f", (), "num", []),
    ("def", "f", ("num",), "num", ()), ("def", "f", [], "num", ()), ("def", "f", (["a", "num"],), "num", ()),
    ("def", "f", (("a", None),), "num", ()), ("def", "f", (), "num", (("give", ("num", -1)),)), ("def", "f", (), (), ()),
    ("def", "f", (), "num", (), ()), ("def", "f", (), "num", ("give", A)), ("def", "let", (), "num", ()),
    ("def", "f", (), "num", (A,)), ["plain", "a"], ("give", A), A, (), ("Plain", "a"), (("plain", "a"),), "plain", ("arm", "a"),
]


class Forms(unittest.TestCase):

    def test_expressions(self):
        for thing in EXPRESSIONS:
            self.assertIs(is_expression(thing), True, thing)
        for thing in [*NO_EXPRESSIONS, *STATEMENTS, *ALL]:
            self.assertIs(is_expression(thing), False, thing)

    def test_statements(self):
        for thing in STATEMENTS:
            self.assertIs(is_statement(thing), True, thing)
        for thing in [*NO_STATEMENTS, *EXPRESSIONS, *ALL]:
            self.assertIs(is_statement(thing), False, thing)

    def test_blocks(self):
        for thing in [(), BLOCK, tuple(STATEMENTS), BLOCK * 20]:
            self.assertIs(is_block(thing), True, thing)
        for thing in NO_STATEMENTS:
            self.assertIs(is_block((*BLOCK, thing)), False, thing)
            self.assertIs(is_block((thing, *BLOCK)), False, thing)
        for thing in [[], list(BLOCK), BLOCK[0], None, "", {}, (BLOCK,), [STATEMENTS]]:
            self.assertIs(is_block(thing), False, thing)

    def test_declarations(self):
        for thing in DECLARATIONS:
            self.assertIs(is_declaration(thing), True, thing)
        for thing in NO_DECLARATIONS:
            self.assertIs(is_declaration(thing), False, thing)

    def test_programs(self):
        for thing in [(), ALL, tuple(DECLARATIONS), (("plain", "a"), ("plain", "a"))]:
            self.assertIs(is_program(thing), True, thing)
        for thing in NO_DECLARATIONS:
            self.assertIs(is_program((("plain", "a"), thing)), False, thing)
            self.assertIs(is_program((thing, ("plain", "a"))), False, thing)
        for thing in [[], list(ALL), ("plain", "a"), None, {}, "", (ALL,), (None,), BLOCK]:
            self.assertIs(is_program(thing), False, thing)

    def test_deep_faults_are_found(self):
        for fault in NO_EXPRESSIONS:
            self.assertIs(is_expression(("and", A, ("call", "f", (A, ("field", ("add", fault, A), "b"))))), False, fault)
            give = ("give", fault)
            deep = ("if", A, (), (("match", "v", A, (("one", None, (("repeat", A, (give,)),)),)),))
            self.assertIs(is_statement(deep), False, fault)
            self.assertIs(is_program((("def", "f", (), "num", (deep,)),)), False, fault)

    def test_any_value(self):
        for thing in odd_values():
            self.assertIs(is_expression(thing), False)
            self.assertIs(is_statement(thing), False)
            self.assertIs(is_declaration(thing), False)
            empty = isinstance(thing, tuple) and len(thing) == 0
            self.assertIs(is_block(thing), empty)
            self.assertIs(is_program(thing), empty)

    def test_programs_by_chance(self):
        for seed in range(40):
            self.assertIs(is_program(chance_program(seed)), True)

    def test_deep_trees(self):
        sides, fields, blocks = ONE, A, ()
        for _ in range(3000):
            sides, fields, blocks = ("add", sides, ONE), ("field", fields, "a"), (("repeat", ONE, blocks),)
        self.assertIs(is_expression(sides), True)
        self.assertIs(is_expression(fields), True)
        self.assertIs(is_block(blocks), True)
        self.assertEqual(len(expressions_in(blocks)), 3000)


class WhatStandsWithin(unittest.TestCase):

    def test_parts_of(self):
        self.assertEqual([parts_of(tree) for tree in (ONE, A, ("truth", True), ("call", "f", ()))], [(), (), (), ()])
        self.assertEqual([parts_of(CALL), parts_of(RECORD)], [(A, ONE), (B,)])
        self.assertEqual(parts_of(("record", "r", (B, A, ONE, A))), (B, A, ONE, A))
        self.assertEqual([parts_of(("field", CALL, "x")), parts_of(("add", A, B))], [(CALL,), (A, B)])
        self.assertEqual([parts_of(("less", B, A)), parts_of(("and", CALL, CALL))], [(B, A), (CALL, CALL)])

    def test_blocks_of(self):
        one, other = (("give", A),), (("give", B),)
        self.assertEqual([blocks_of(("if", A, one, None)), blocks_of(("if", A, one, other))], [(one,), (one, other)])
        self.assertEqual([blocks_of(("if", A, (), ())), blocks_of(("if", A, (), None))], [((), ()), ((),)])
        self.assertEqual(blocks_of(("match", "v", A, (("x", None, other), ("y", "z", one), ("w", None, ())))), (other, one, ()))
        self.assertEqual([blocks_of(("match", "v", A, ())), blocks_of(("repeat", A, one))], [(), (one,)])
        self.assertEqual([blocks_of(("give", A)), blocks_of(("let", "a", "num", A)), blocks_of(("open", "r", ("a",), A))], [()] * 3)

    def test_blocks_of_only_the_own_ones(self):
        inner = (("repeat", A, (("give", A),)),)
        self.assertEqual(blocks_of(("if", A, inner, None)), (inner,))

    def test_expressions_in(self):
        number = [("num", many) for many in range(20)]
        block = (
            ("let", "a", "num", number[0]),
            ("if", number[1], (("give", number[2]), ("give", number[3])), (("repeat", number[4], (("give", number[5]),)),)),
            ("match", "v", number[6], (("x", None, (("give", number[7]),)), ("y", "z", ()), ("w", None, (("give", number[8]),)))),
            ("open", "r", ("a", "b"), number[9]),
            ("repeat", number[10], (("if", number[11], (("give", number[12]),), None), ("let", "a", "b", number[13]))),
            ("give", ("add", number[14], number[15])),
        )
        self.assertEqual(expressions_in(block), (*number[:14], ("add", number[14], number[15])))
        self.assertEqual([expressions_in(()), expressions_in((("give", CALL),))], [(), (CALL,)])


if __name__ == "__main__":
    unittest.main()
