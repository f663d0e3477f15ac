"""Runs of right programs: a list tells what is still to be done, without recursion."""

from endsahead.errors import NoAnswer, TooLong
from endsahead.trees import PLACES_OF_E, parts_of
from endsahead.values import is_of_kind, tokens_in


class Run:
    """A run that has not ended."""

    def __init__(self, program, world, most):
        self.declarations = program
        self.world = world
        self.most = most
        self.steps_made = 0
        self.log = []
        self.callables = {declared[1]: declared for declared in program if declared[0] in ("given", "def")}
        self.places = _places_of_fields(program)
        # What is still to be done, the next one last: tuples (word, thing).
        self.todo = []
        # The values that are made, and have no place yet.
        self.made = []
        # Of each function that is open, the innermost last: its names, and how much is to be done behind it.
        self.names = []
        self.behind = []

    def step(self):
        """Count a step."""
        if self.steps_made >= self.most:
            raise TooLong(self.most)
        self.steps_made += 1

    def plan(self, word, things):
        """Put things to be done, in order, ahead of all that is still to be done."""
        self.todo.extend([(word, thing) for thing in things[::-1]])

    def take(self, many):
        """Return the tuple of the values that were made last, which have their place now."""
        at = len(self.made) - many
        values = tuple(self.made[at:])
        del self.made[at:]
        return values

    def begin(self, declared, arguments):
        """Begin the block of a function."""
        self.names.append({name: value for (name, _), value in zip(declared[2], arguments)})
        self.behind.append(len(self.todo))
        self.plan("statement", declared[4])

    def end(self):
        """End the innermost function, whatever stands around the give."""
        self.names.pop()
        at = self.behind.pop()
        del self.todo[at:]

    def answer(self, declared, arguments):
        """Ask the world for the answer of a given."""
        place = len(self.log)
        if place >= len(self.world) or not is_of_kind(self.declarations, declared[3], self.world[place]):
            raise NoAnswer(place)
        self.log.append((declared[1], arguments))
        self.made.append(self.world[place])


def _places_of_fields(program):
    """Return the dict from the tuples (record, field) to the places of the fields."""
    found = {}
    for declared in program:
        if declared[0] == "record":
            for place, (field, _) in enumerate(declared[2]):
                found[(declared[1], field)] = place
    return found


def run(program, name, arguments, world, most):
    """Return the tuple (value that a function gives, log of the calls of givens)."""
    running = Run(program, world, most)
    running.begin(running.callables[name], arguments)
    while running.todo:
        word, thing = running.todo.pop()
        act = TASKS[word]
        act(running, thing)
    return (running.made[0], running.log)


def _begin_statement(running, statement):
    running.step()
    running.plan("end", (statement,))
    running.plan("make", (statement[PLACES_OF_E[statement[0]]],))


def _end_statement(running, statement):
    """Do what a statement does as soon as its E is made."""
    act = STATEMENTS[statement[0]]
    act(running, statement, running.take(1)[0])


def _do_let(running, statement, value):
    running.names[-1][statement[1]] = value


def _do_open(running, statement, value):
    for name, part in zip(statement[2], value[1]):
        running.names[-1][name] = part


def _do_if(running, statement, value):
    running.plan("statement", statement[2] if value else statement[3] or ())


def _do_match(running, statement, value):
    for arm, name, block in statement[3]:
        if arm == value[0]:
            if name is not None:
                running.names[-1][name] = value[1]
            running.plan("statement", block)


def _do_repeat(running, statement, value):
    running.plan("turns", ((value, statement[2]),))


def _do_give(running, _, value):
    running.end()
    # It is the value of the call, so it belongs to what stood around the function.
    running.made.append(value)


def _go_round(running, turns):
    """Begin the next turn of a repeat, if one is left."""
    many, block = turns
    if many > 0:
        running.step()
        running.plan("turns", ((many - 1, block),))
        running.plan("statement", block)


def _make(running, tree):
    """Make an E: its parts from left to right, all of them, and then itself."""
    running.plan("join", (tree,))
    running.plan("make", parts_of(tree))


def _join(running, tree):
    """Make an E, the parts of which are made."""
    values = running.take(len(parts_of(tree)))
    act = EXPRESSIONS[tree[0]]
    act(running, tree, values)


def _join_literal(running, tree, _):
    running.made.append(tree[1])


def _join_name(running, tree, _):
    names = running.names[-1]
    running.made.append(names[tree[1]] if tree[1] in names else (tree[1], None))


def _join_call(running, tree, values):
    declared = running.callables.get(tree[1])
    if declared is None:
        running.made.append((tree[1], values[0]))
    elif declared[0] == "def":
        running.begin(declared, values)
    else:
        running.answer(declared, values)


def _join_record(running, tree, values):
    running.made.append((tree[1], values))


def _join_field(running, tree, values):
    record, parts = values[0]
    running.made.append(parts[running.places[(record, tree[2])]])


def _join_add(running, _, values):
    running.made.append(values[0] + values[1])


def _join_less(running, _, values):
    running.made.append(values[0] < values[1])


def _join_and(running, _, values):
    running.made.append(values[0] and values[1])


TASKS = {
    "statement": _begin_statement,
    "end": _end_statement,
    "turns": _go_round,
    "make": _make,
    "join": _join,
}
STATEMENTS = {
    "let": _do_let,
    "open": _do_open,
    "if": _do_if,
    "match": _do_match,
    "repeat": _do_repeat,
    "give": _do_give,
}
EXPRESSIONS = {
    "num": _join_literal,
    "truth": _join_literal,
    "name": _join_name,
    "call": _join_call,
    "record": _join_record,
    "field": _join_field,
    "add": _join_add,
    "less": _join_less,
    "and": _join_and,
}


def handed_over(declarations, log, value):
    """Return the tokens of the arguments of a log, in order, and then of a value."""
    values = [argument for _, arguments in log for argument in arguments]
    return tuple([token for held in [*values, value] for token in tokens_in(declarations, held)])


def calls_of(log, name):
    """Return the list of the arguments of all calls of a name, in order."""
    return [arguments for called, arguments in log if called == name]
