"""The grammar as the document tells it, and slow readers and writers that share nothing with the program."""

from endsahead.words import sort_of_word
from samples import LEVELS

RULES = {}


def rule(name, *wholes):
    RULES[name] = [tuple(whole.split()) for whole in wholes]


rule("program", "", "declaration program")
rule(
    "declaration",
    "plain NAME ;", "once NAME ;", "record NAME { fields }", "choice NAME { arms }", "given NAME ( ) : kind ;",
    "given NAME ( kinds ) : kind ;", "def NAME ( ) : kind block", "def NAME ( fields ) : kind block",
)
rule("fields", "NAME : kind", "NAME : kind , fields")
rule("arms", "arm", "arm , arms")
rule("arm", "NAME", "NAME : kind")
rule("kinds", "kind", "kind , kinds")
rule("kind", "num", "truth", "NAME")
rule("block", "{ statements }")
rule("statements", "", "statement statements")
rule(
    "statement",
    "let NAME : kind = E1 ;", "open NAME { names } = E1 ;", "if E1 block", "if E1 block else block",
    "match NAME E1 { cases }", "repeat E1 block", "give E1 ;",
)
rule("names", "NAME", "NAME , names")
rule("cases", "", "NAME block cases", "NAME NAME block cases")
rule("E1", "E1 and E2", "E2")
rule("E2", "E3 < E3", "E3")
rule("E3", "E3 + E4", "E4")
rule("E4", "E4 . NAME", "E5")
rule("E5", "NUMBER", "true", "false", "NAME", "NAME ( )", "NAME ( parts )", "NAME { parts }", "( E1 )")
rule("parts", "E1", "E1 , parts")


def where_it_ends(row, start):
    """Return None if the row is whole, else the index that NoTree has: Earley's way, over all readings at once."""
    items = closed([{(start, whole, 0, 0) for whole in RULES[start]}])
    for index, word in enumerate(row):
        sign = {"name": "NAME", "number": "NUMBER"}.get(sort_of_word(word), word)
        moved = {(n, w, dot + 1, begin) for n, w, dot, begin in items[-1] if w[dot:dot + 1] == (sign,)}
        if not moved:
            return index
        items = closed([*items, moved])
    whole = any(n == start and dot == len(w) and begin == 0 for n, w, dot, begin in items[-1])
    return None if whole else len(row)


def closed(items):
    last, at = items[-1], len(items) - 1
    waiting = list(last)
    while waiting:
        name, whole, dot, begin = waiting.pop()
        if dot < len(whole):
            found = {(whole[dot], other, 0, at) for other in RULES.get(whole[dot], ())}
            if any(n == whole[dot] and d == len(w) and b == at for n, w, d, b in last):
                found.add((name, whole, dot + 1, begin))
        else:
            found = {(n, w, d + 1, b) for n, w, d, b in items[begin] if w[d:d + 1] == (name,)}
        waiting.extend(found - last)
        last |= found
    return items


class Writer:
    """Writes programs as rows, with as many needless brackets as chance likes."""

    def __init__(self, chance, many):
        self.chance = chance
        self.many = many
        self.row = []
        self.needless = []

    def say(self, *words):
        self.row.extend(words)

    def commas(self, write, things):
        for at, thing in enumerate(things):
            if at:
                self.say(",")
            write(thing)

    def expression(self, tree, wanted=1):
        needed = LEVELS.get(tree[0], 5) < wanted
        brackets = max(self.chance.randint(-2, self.many), int(needed)) if self.many else int(needed)
        for at in range(brackets):
            if at < brackets - 1 or not needed:
                self.needless.append(len(self.row))
            self.say("(")
        self.bare(tree)
        self.say(*[")"] * max(brackets, 0))

    def bare(self, tree):
        word = tree[0]
        if word == "num":
            self.say(str(tree[1]))
        elif word == "truth":
            self.say("true" if tree[1] else "false")
        elif word == "name":
            self.say(tree[1])
        elif word in ("call", "record"):
            self.say(tree[1], "(" if word == "call" else "{")
            self.commas(self.expression, tree[2])
            self.say(")" if word == "call" else "}")
        elif word == "field":
            self.expression(tree[1], 4)
            self.say(".", tree[2])
        else:
            left, sign, right = {"and": (1, "and", 2), "less": (3, "<", 3), "add": (3, "+", 4)}[word]
            self.expression(tree[1], left)
            self.say(sign)
            self.expression(tree[2], right)

    def block(self, block):
        self.say("{")
        for statement in block:
            self.statement(statement)
        self.say("}")

    def statement(self, tree):
        word = tree[0]
        if word == "let":
            self.say("let", tree[1], ":", tree[2], "=")
        elif word == "open":
            self.say("open", tree[1], "{", *" , ".join(tree[2]).split(), "}", "=")
        elif word == "match":
            self.say("match", tree[1])
        else:
            self.say(word)
        self.expression(tree[{"let": 3, "open": 3, "match": 2}.get(word, 1)])
        if word in ("let", "open", "give"):
            self.say(";")
        elif word == "match":
            self.say("{")
            for arm, name, block in tree[3]:
                self.say(arm, *([] if name is None else [name]))
                self.block(block)
            self.say("}")
        else:
            self.block(tree[2])
        if word == "if" and tree[3] is not None:
            self.say("else")
            self.block(tree[3])

    def typed(self, pair):
        self.say(pair[0], *([] if pair[1] is None else [":", pair[1]]))

    def declaration(self, tree):
        word = tree[0]
        self.say(word, tree[1])
        if word in ("record", "choice"):
            self.say("{")
            self.commas(self.typed, tree[2])
            self.say("}")
        elif word in ("given", "def"):
            self.say("(")
            self.commas(self.say if word == "given" else self.typed, tree[2])
            self.say(")", ":", tree[3])
        if word == "def":
            self.block(tree[4])
        elif word in ("plain", "once", "given"):
            self.say(";")


def row_by_chance(program, chance, many):
    """Return a row of a program, and the indexes of the needless brackets in it."""
    writer = Writer(chance, many)
    for tree in program:
        writer.declaration(tree)
    return tuple(writer.row), tuple(writer.needless)
