"""Runs as the document tells them, by recursion, and values by chance; nothing is shared with the program."""


class Ended(Exception):
    """What ends a run ahead of its end: ("no answer", place) or ("too long", most)."""


class Gave(Exception):
    """A give, whatever stands around it."""


def declared_as(program):
    """Return the dict from the names of kinds, functions and arms to what is declared."""
    found = {}
    for declared in program:
        found[declared[1]] = declared
        if declared[0] == "choice":
            found.update({arm: ("arm", arm, declared[1], part) for arm, part in declared[2]})
    return found


def fits(program, kind, thing):
    """Tell whether a thing is a value of a kind."""
    if kind == "num":
        return type(thing) is int
    if kind == "truth":
        return type(thing) is bool
    if type(thing) is not tuple or len(thing) != 2 or type(thing[0]) is not str:
        return False
    declared = declared_as(program)[kind]
    if declared[0] in ("plain", "once"):
        return thing[0] == kind and type(thing[1]) is int and thing[1] >= 0
    if declared[0] == "record":
        if thing[0] != kind or type(thing[1]) is not tuple or len(thing[1]) != len(declared[2]):
            return False
        return all(fits(program, part, held) for (_, part), held in zip(declared[2], thing[1]))
    arms = dict(declared[2])
    if thing[0] not in arms:
        return False
    return thing[1] is None if arms[thing[0]] is None else fits(program, arms[thing[0]], thing[1])


def tokens(program, value):
    """Return the list of the tokens of a value."""
    if type(value) is not tuple:
        return []
    declared = declared_as(program)[value[0]]
    if declared[0] == "once":
        return [value]
    if declared[0] == "record":
        return [token for part in value[1] for token in tokens(program, part)]
    return [] if declared[0] == "plain" or value[1] is None else tokens(program, value[1])


class Runner:
    """A run."""

    def __init__(self, program, world, most):
        self.program, self.world, self.most = program, world, most
        self.declared = declared_as(program)
        self.steps, self.log = 0, []

    def step(self):
        self.steps += 1
        if self.steps > self.most:
            raise Ended("too long", self.most)

    def call(self, name, arguments):
        declared = self.declared[name]
        if declared[0] == "arm":
            return (name, arguments[0])
        if declared[0] == "given":
            place = len(self.log)
            if place >= len(self.world) or not fits(self.program, declared[3], self.world[place]):
                raise Ended("no answer", place)
            self.log.append((name, tuple(arguments)))
            return self.world[place]
        try:
            self.block(declared[4], {name: value for (name, _), value in zip(declared[2], arguments)})
        except Gave as gave:
            return gave.args[0]
        raise AssertionError("a function gave nothing")

    def block(self, block, names):
        names = dict(names)
        for statement in block:
            self.step()
            getattr(self, "do_" + statement[0])(statement, names)

    def do_let(self, statement, names):
        value = self.make(statement[3], names)
        assert fits(self.program, statement[2], value) and statement[1] not in names
        names[statement[1]] = value

    def do_open(self, statement, names):
        names.update(zip(statement[2], self.make(statement[3], names)[1]))

    def do_if(self, statement, names):
        value = self.make(statement[1], names)
        assert type(value) is bool
        self.block(statement[2] if value else statement[3] or (), names)

    def do_match(self, statement, names):
        arm, part = self.make(statement[2], names)
        name, block = next((name, block) for told, name, block in statement[3] if told == arm)
        self.block(block, names if name is None else {**names, name: part})

    def do_repeat(self, statement, names):
        many = self.make(statement[1], names)
        while many > 0:
            self.step()
            self.block(statement[2], names)
            many -= 1

    def do_give(self, statement, names):
        raise Gave(self.make(statement[1], names))

    def make(self, tree, names):
        word = tree[0]
        if word in ("num", "truth"):
            return tree[1]
        if word == "name":
            return names[tree[1]] if tree[1] in names else (tree[1], None)
        if word == "call":
            return self.call(tree[1], [self.make(part, names) for part in tree[2]])
        if word == "record":
            return (tree[1], tuple([self.make(part, names) for part in tree[2]]))
        if word == "field":
            record, parts = self.make(tree[1], names)
            return parts[[field for field, _ in self.declared[record][2]].index(tree[2])]
        left, right = self.make(tree[1], names), self.make(tree[2], names)
        if word == "add":
            assert type(left) is int and type(right) is int
            return left + right
        return left < right if word == "less" else left and right


def slow_run(program, name, arguments, world, most):
    """Return the tuple ("value", value, log, steps), or why the run ended ahead of its end."""
    runner = Runner(program, world, most)
    try:
        value = runner.call(name, list(arguments))
    except Ended as ended:
        return ended.args
    return ("value", value, runner.log, runner.steps)


class Labels:
    """Values by chance, in which no label comes twice."""

    def __init__(self, chance, program):
        self.chance, self.program, self.declared, self.next = chance, program, declared_as(program), 0

    def value(self, kind):
        if kind == "num":
            return self.chance.choice((-1, 0, 1, 2, 3))
        if kind == "truth":
            return self.chance.random() < 0.5
        declared = self.declared[kind]
        if declared[0] in ("plain", "once"):
            self.next += 1
            return (kind, self.next)
        if declared[0] == "record":
            return (kind, tuple(self.value(part) for _, part in declared[2]))
        arm, part = self.chance.choice(declared[2])
        return (arm, None if part is None else self.value(part))


def world_for(labels, program, name, arguments, most):
    """Return answers, one by one, for all calls that a run of at most so many steps makes."""
    world = ()
    while True:
        told = slow_run(program, name, arguments, world, most)
        if told[0] != "no answer":
            return world
        # The call that has no answer is found by a run with answers that fit all.
        world = (*world, labels.value(kind_asked(program, name, arguments, world, most)))


def kind_asked(program, name, arguments, world, most):
    """Return the kind that the first call makes for which a world has no answer."""
    runner = Runner(program, world, most)
    asked = []
    call = runner.call

    def watched(called, parts):
        if runner.declared[called][0] == "given" and len(runner.log) >= len(world):
            asked.append(runner.declared[called][3])
        return call(called, parts)

    runner.call = watched
    try:
        call(name, list(arguments))
    except Ended:
        pass
    return asked[0]
