"""Values that several tests use: odd things, declarations of all sorts, and programs made by chance."""

import random

from endsahead import errors

SPOTS = ["", " ", "\n", "Name", "a b", "a\n", "_", "-1", "1.5", "x" * 20, "x" * 21, "1" * 9, "1" * 10, "0", "00", "07", "1x"]


def odd_values():
    """Return values of many sorts, none of them a tree, a row of words or a stock, but for ()."""
    plain = [None, True, False, 0, 1, -1, 10 ** 39, -(10 ** 39), [], {}, (), [[]], ((),), {"a": 1}, {"a": []}]
    members = [("a", 1, "b"), (None,), ("a", None), ((("a",),),), [("a",)], (("a", []),), ({},), ["a"]]
    made = [errors.NoWord(3), errors.Nothing(), errors.Wrong([1])]
    deep = ()
    for _ in range(39):
        deep = (deep,)
    return [*plain, *SPOTS, *members, *made, deep, [deep], "let" * 1000]


INK = ("plain", "ink")
TOK = ("once", "tok")
PAIR = ("record", "pair", (("left", "tok"), ("right", "num")))
PAGE = ("record", "page", (("left", "ink"), ("sure", "truth"), ("right", "num")))
SOME = ("choice", "some", (("none", None), ("one", "pair")))
BIT = ("choice", "bit", (("yes", "page"), ("no", None)))
FAR = ("record", "far", (("within", "some"),))
MINT = ("given", "mint", ("ink", "num"), "tok")
ASK = ("given", "ask", (), "truth")
BURN = ("def", "burn", (("t", "tok"), ("n", "num")), "num", (("give", ("name", "n")),))
LAST = ("def", "last", (), "far", (("give", ("record", "far", (("name", "none"),))),))

ALL = (INK, TOK, PAIR, PAGE, SOME, BIT, FAR, MINT, ASK, BURN, LAST)

NAMES = ("a", "b", "r", "v", "x1")
KINDS = ("num", "truth", "a", "r")
LEVELS = {"and": 1, "less": 2, "add": 3, "field": 4}


def chance_expression(chance, depth):
    """Return an E that is as deep at most."""
    names = chance.choice(NAMES)
    if depth < 2 or chance.random() < 0.2:
        leaves = [("num", chance.choice((0, 7, 999999999))), ("truth", chance.random() < 0.5), ("name", names)]
        return chance.choice([*leaves, ("name", names), ("call", names, ())])
    word = chance.choice(("call", "record", "field", "add", "less", "and", "add", "and", "less"))
    if word in ("call", "record"):
        many = chance.randint(0 if word == "call" else 1, 3)
        return (word, names, tuple(chance_expression(chance, depth - 1) for _ in range(many)))
    left = chance_expression(chance, depth - 1)
    if word == "field":
        return (word, left, names)
    return (word, left, chance_expression(chance, depth - 1))


def chance_block(chance, depth):
    """Return a block in which blocks stand as deep at most."""
    if depth < 1:
        return ()
    return tuple(chance_statement(chance, depth) for _ in range(chance.randint(0, 3)))


def chance_statement(chance, depth):
    word = chance.choice(("let", "open", "if", "match", "repeat", "give"))
    expression = chance_expression(chance, chance.randint(1, 4))
    name = chance.choice(NAMES)
    if word == "let":
        return (word, name, chance.choice(KINDS), expression)
    if word == "open":
        return (word, name, tuple(chance.choice(NAMES) for _ in range(chance.randint(1, 3))), expression)
    if word == "if":
        other = chance_block(chance, depth - 1) if chance.random() < 0.5 else None
        return (word, expression, chance_block(chance, depth - 1), other)
    if word == "match":
        return (word, name, expression, tuple(chance_case(chance, depth) for _ in range(chance.randint(0, 3))))
    if word == "repeat":
        return (word, expression, chance_block(chance, depth - 1))
    return (word, expression)


def chance_case(chance, depth):
    held = chance.choice(NAMES) if chance.random() < 0.5 else None
    return (chance.choice(NAMES), held, chance_block(chance, depth - 1))


def chance_declaration(chance):
    word = chance.choice(("plain", "once", "record", "choice", "given", "def", "def", "def"))
    name = chance.choice(NAMES)
    typed = [(chance.choice(NAMES), chance.choice(KINDS)) for _ in range(chance.randint(1, 3))]
    if word == "record":
        return (word, name, tuple(typed))
    if word == "choice":
        return (word, name, tuple((arm, kind if chance.random() < 0.5 else None) for arm, kind in typed))
    if word == "given":
        return (word, name, tuple(kind for _, kind in typed[1:]), chance.choice(KINDS))
    if word == "def":
        return (word, name, tuple(typed[1:]), chance.choice(KINDS), chance_block(chance, 3))
    return (word, name)


def chance_program(seed):
    """Return a program, seldom a right one, the same one for the same seed."""
    chance = random.Random(seed)
    return tuple(chance_declaration(chance) for _ in range(chance.randint(0, 4)))
