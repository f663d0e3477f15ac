"""Right programs made by chance, by a way of their own: names, kinds and spending are kept while they are written."""

import random

NAMES = [*"abcdefgh", "x1", "y2"]


def chance_kinds(chance, most):
    """Return declarations of kinds, each part declared ahead."""
    made, kinds = [], []
    arms = iter([f"arm{many}" for many in range(100)])
    for at in range(chance.randint(1, most)):
        name = f"k{at}"
        word = chance.choice(("plain", "once", "once", "record", "choice"))
        if word in ("plain", "once"):
            made.append((word, name))
        elif word == "record":
            told = [(f"f{many}", chance.choice([*kinds, *kinds, "num", "truth"])) for many in range(chance.randint(1, 3))]
            made.append((word, name, tuple(told)))
        else:
            parts = [chance.choice([*kinds, *kinds, "num", None]) for _ in range(chance.randint(1, 3))]
            made.append((word, name, tuple((next(arms), part) for part in parts)))
        kinds.append(name)
    return made, kinds


def chance_library(seed, most=5, functions=4):
    """Return a library of at most so many kinds and givens."""
    chance = random.Random(seed)
    made, kinds = chance_kinds(chance, most)
    for at in range(chance.randint(0, functions)):
        taken = tuple(chance.choice([*kinds, *kinds, "num", "truth"]) for _ in range(chance.choice((0, 1, 1, 2, 2, 3))))
        made.append(("given", f"g{at}", taken, chance.choice([*kinds, *kinds, *kinds, "num", "truth"])))
    if chance.random() < 0.3:
        first = [declared for declared in made if declared[0] in ("plain", "once")]
        made = [*first, *[declared for declared in made if declared not in first]]
    return tuple(made)


def rich_library(seed, kinds=6, functions=6):
    """Return a library in which nothing comes of nothing, so that its lots and rounds are many."""
    chance = random.Random(seed)
    made = [("once", "o0"), ("once", "o1"), *[(word, f"p{at}") for at, word in enumerate(chance.choices(("once", "plain"), k=kinds // 3))]]
    names = [name for _, name in made]
    for at in range(kinds - len(made)):
        parts = chance.choices(names, k=chance.choice((1, 2, 2, 3)))
        word = chance.choice(("record", "choice"))
        made.append((word, f"r{at}", tuple((f"x{at}y{many}", part) for many, part in enumerate(parts))))
        names.append(f"r{at}")
    for at in range(functions):
        made.append(("given", f"g{at}", tuple(chance.choices(names, k=chance.choice((1, 2, 2)))), chance.choice(names)))
    return tuple(made)


class Author:
    """Writes the block of one function."""

    def __init__(self, chance, declarations, function):
        self.chance = chance
        self.function = function
        self.once, self.fields, self.arms, self.makers = {"num": False, "truth": False}, {}, {}, []
        self.taken = {function}
        for declared in declarations:
            self.learn(declared)
        self.scopes = []
        self.spent = set()
        self.floor = 0

    def learn(self, declared):
        word, name = declared[:2]
        self.taken.add(name)
        if word in ("plain", "once"):
            self.once[name] = word == "once"
        elif word in ("record", "choice"):
            self.once[name] = any(part is not None and self.once[part] for _, part in declared[2])
            (self.fields if word == "record" else self.arms)[name] = declared[2]
            if word == "record":
                self.makers.append((word, name, tuple(kind for _, kind in declared[2]), name))
            for arm, part in declared[2] if word == "choice" else ():
                self.taken.add(arm)
                self.makers.append(("arm", arm, () if part is None else (part,), name))
        else:
            kinds = declared[2] if word == "given" else tuple(kind for _, kind in declared[2])
            self.makers.append(("call", name, kinds, declared[3]))

    def kinds(self):
        return [*self.once]

    def sight(self):
        return {name: kind for scope in self.scopes for name, kind in scope.items()}

    def fresh(self, *others):
        seen = {*self.sight(), *self.taken, *others}
        pool = [name for name in NAMES if name not in seen]
        return self.chance.choice(pool) if pool else next(f"n{at}" for at in range(1000) if f"n{at}" not in seen)

    def usable(self, kind):
        found = []
        for depth, scope in enumerate(self.scopes):
            for name, held in scope.items():
                if held == kind and (not self.once[kind] or (name not in self.spent and depth >= self.floor)):
                    found.append(name)
        return found

    def expression(self, kind, depth):
        """Return an E of a kind, None if none was found."""
        before = set(self.spent)
        ways = self.ways(kind, depth)
        self.chance.shuffle(ways)
        for way in ways[:4]:
            tree = way()
            if tree is not None:
                return tree
            self.spent = set(before)
        return None

    def ways(self, kind, depth):
        ways = [lambda name=name: self.use(name, kind) for name in self.usable(kind)] * 2
        if kind == "num":
            ways.append(lambda: ("num", self.chance.choice((0, 7, 999999999))))
        if kind == "truth":
            ways.append(lambda: ("truth", self.chance.random() < 0.5))
        if depth < 2:
            return ways + [lambda m=m: self.make(m, depth) for m in self.makers if m[3] == kind and not m[2]]
        if kind == "num":
            ways.append(lambda: self.operator("add", "num", depth))
        if kind == "truth":
            ways.append(lambda: self.operator("less", "num", depth))
            ways.append(lambda: self.operator("and", "truth", depth))
        ways += [lambda m=m: self.make(m, depth) for m in self.makers if m[3] == kind]
        for record, fields in self.fields.items():
            ways += [lambda r=record, f=field: self.field(r, f, depth) for field, held in fields if held == kind]
        return ways

    def use(self, name, kind):
        if self.once[kind]:
            self.spent.add(name)
        return ("name", name)

    def operator(self, word, kind, depth):
        left = self.expression(kind, depth - 1)
        right = self.expression(kind, depth - 1)
        return None if left is None or right is None else (word, left, right)

    def make(self, maker, depth):
        word, name, kinds, _ = maker
        parts = []
        for kind in kinds:
            part = self.expression(kind, depth - 1)
            if part is None:
                return None
            parts.append(part)
        if word == "arm" and not parts:
            return ("name", name)
        return ("record" if word == "record" else "call", name, tuple(parts))

    def field(self, record, field, depth):
        tree = self.expression(record, depth - 1)
        return None if tree is None else ("field", tree, field)

    def block(self, kind, depth, has_to_give, names=None):
        """Return a tuple (block, whether it gives), with names that can be seen in it."""
        self.scopes.append(dict(names or {}))
        found = []
        for _ in range(self.chance.choice((0, 1, 1, 2, 3))):
            statement, gave = self.statement(kind, depth)
            if statement is not None:
                found.append(statement)
            if gave:
                break
        else:
            gave = False
        if not gave and (has_to_give or self.chance.random() < 0.2):
            tree = self.expression(kind, 3)
            if tree is not None:
                found.append(("give", tree))
                gave = True
        gone = self.scopes.pop()
        self.spent -= set(gone)
        return tuple(found), gave

    def statement(self, kind, depth):
        word = self.chance.choice(("let", "let", "open", "if", "match", "repeat") if depth > 0 else ("let", "let", "open"))
        if word == "let":
            aim = self.chance.choice(self.kinds())
            tree = self.expression(aim, 3)
            if tree is None:
                return None, False
            name = self.fresh()
            self.scopes[-1][name] = aim
            return ("let", name, aim, tree), False
        if word in ("open", "match"):
            told = self.fields if word == "open" else self.arms
            aim = self.chance.choice(sorted(told)) if told else None
        else:
            aim = {"if": "truth", "repeat": "num"}[word]
        before = set(self.spent)
        tree = None if aim is None else self.expression(aim, 3)
        if tree is None:
            self.spent = before
            return None, False
        return getattr(self, "write_" + word)(aim, tree, kind, depth)

    def write_open(self, aim, tree, _, __):
        names = []
        for _ in self.fields[aim]:
            names.append(self.fresh(*names))
        self.scopes[-1].update(dict(zip(names, [kind for _, kind in self.fields[aim]])))
        return ("open", aim, tuple(names), tree), False

    def write_if(self, _, tree, kind, depth):
        has_other = self.chance.random() < 0.6
        ways = [{}, {}] if has_other else [{}]
        blocks, gave = self.branches(ways, kind, depth, not has_other)
        return ("if", tree, blocks[0], blocks[1] if has_other else None), gave

    def write_match(self, aim, tree, kind, depth):
        ways, told = [], []
        for arm, part in self.arms[aim]:
            name = None if part is None else self.fresh()
            told.append((arm, name))
            ways.append({} if part is None else {name: part})
        blocks, gave = self.branches(ways, kind, depth, False)
        return ("match", aim, tree, tuple((*pair, block) for pair, block in zip(told, blocks))), gave

    def branches(self, ways, kind, depth, goes_on):
        before, ends, blocks = set(self.spent), [], []
        for names in ways:
            self.spent = set(before)
            block, gave = self.block(kind, depth - 1, self.chance.random() < 0.5, names)
            blocks.append(block)
            if not gave:
                ends.append(set(self.spent))
        if goes_on:
            ends.append(before)
        self.spent = set().union(*ends) if ends else before
        return blocks, not ends

    def write_repeat(self, _, tree, kind, depth):
        before, floor = set(self.spent), self.floor
        self.floor = len(self.scopes)
        block, _ = self.block(kind, depth - 1, False)
        self.spent, self.floor = before, floor
        return ("repeat", tree, block), False


def chance_function(chance, declarations, name, depth=2):
    """Return a function that is right behind declarations, None if none was found."""
    author = Author(chance, declarations, name)
    kind = chance.choice(author.kinds())
    parameters = {}
    for _ in range(chance.choice((0, 1, 2, 3))):
        author.scopes = [parameters]
        parameters[author.fresh()] = chance.choice(author.kinds())
    told = tuple(parameters.items())
    author.scopes = []
    block, gave = author.block(kind, depth, True, parameters)
    return ("def", name, told, kind, block) if gave else None


def right_program(seed, most=5, functions=4, defs=2, depth=2):
    """Return a right program, the same one for the same seed."""
    chance = random.Random(seed)
    program = list(chance_library(seed, most, functions))
    for at in range(defs):
        made = next((f for f in (chance_function(chance, program, f"h{at}", depth) for _ in range(6)) if f), None)
        if made is not None:
            program.append(made)
    return tuple(program)
