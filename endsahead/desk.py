"""A desk at which a row is led by lines."""

from endsahead.errors import (
    NoAnswer, NoCommand, NoEnding, Nothing, NoTree, NoWord, TooLong, Wrong,
)
from endsahead.forms import is_name
from endsahead.kept import Kept
from endsahead.reader import read_program
from endsahead.right import broken
from endsahead.running import run
from endsahead.shower import show_program
from endsahead.values import show_value
from endsahead.words import cut, number_of, show, sort_of_word

MOST_STEPS = 1000
TRUTHS = {"true": True, "false": False}


def _tell_row(kept, parts):
    return None if parts else [show(kept.row())]


def _do_put(kept, parts):
    index = _number_in(parts, 0, len(kept.row()))
    words = _words_in(parts[1:])
    if index is None or words is None:
        return None
    kept.put(index, words)
    return ["done"]


def _do_take(kept, parts):
    index = _number_in(parts, 0, len(kept.row()))
    if index is None or len(parts) != 2:
        return None
    many = _number_in(parts, 1, len(kept.row()) - index)
    if many is None:
        return None
    kept.take(index, many)
    return ["done"]


def _number_in(parts, at, most):
    """Return the integer that the part at an index shows, None if there is none up to most."""
    if at >= len(parts) or sort_of_word(parts[at]) != "number":
        return None
    number = number_of(parts[at])
    return number if number <= most else None


def _words_in(parts):
    """Return the words that parts of a line show, None if they show none."""
    try:
        return cut(" ".join(parts))
    except NoWord:
        return None


def _do_write(kept, parts):
    words = _words_in(parts)
    if words is None:
        return None
    many = 0
    while many < len(words) and kept.write(words[many]):
        many += 1
    return [f"{many} of {len(words)}"]


def _do_finish(kept, parts):
    if parts:
        return None
    try:
        return [show(kept.finish())]
    except NoEnding:
        return ["no ending"]


def _do_undo(kept, parts):
    if parts:
        return None
    try:
        kept.undo()
    except Nothing:
        return ["nothing"]
    return ["done"]


def _tell_dead(kept, parts):
    if parts:
        return None
    dead = kept.dead()
    return ["none"] if dead is None else [f"{dead} {kept.row()[dead]}"]


def _tell_offers(kept, parts):
    many = len(kept.row())
    index = _number_in(parts, 0, many) if parts else many
    if index is None or len(parts) > 1:
        return None
    try:
        return _listed(kept.offers(index))
    except NoEnding:
        return ["no ending"]


def _tell_instead(kept, parts):
    index = _number_in(parts, 0, len(kept.row()) - 1)
    return None if index is None or len(parts) > 1 else _listed(kept.instead(index))


def _listed(offered):
    """Return the list of what is offered."""
    words, new, number = offered
    found = list(words)
    if new:
        found.append("NAME")
    if number:
        found.append("NUMBER")
    return found


def _tell_lacks(kept, parts):
    if parts:
        return None
    try:
        stocks = kept.lacks()
    except NoTree as error:
        return [f"unread {error.index}"]
    return [_show_stock(stock) for stock in stocks] if stocks else ["no stock"]


def _show_stock(stock):
    return " ".join([f"{kind} {count}" for kind, count in stock]) if stock else "nothing"


def _tell_right(kept, parts):
    if parts:
        return None
    try:
        found = broken(read_program(kept.row()))
    except NoTree as error:
        return [f"unread {error.index}"]
    return ["right"] if found is None else [f"{found[0]} {found[1]}"]


def _tell_program(kept, parts):
    if parts:
        return None
    try:
        program = read_program(kept.row())
    except NoTree as error:
        return [f"unread {error.index}"]
    return show_program(program).split("\n") if program else []


def _tell_run(kept, parts):
    values = [_value_of(part) for part in parts[1:]]
    if not parts or not is_name(parts[0]) or None in values:
        return None
    program = kept.program()
    if program is None:
        return ["not right"]
    if not _takes(program, parts[0], values):
        return ["no function"]
    try:
        return [show_value(program, run(program, parts[0], tuple(values), (), MOST_STEPS)[0])]
    except NoAnswer as error:
        return [f"no answer {error.place}"]
    except TooLong:
        return ["too long"]


def _value_of(part):
    """Return the value that a part of a line shows, None if it shows none."""
    if part in TRUTHS:
        return TRUTHS[part]
    return number_of(part) if sort_of_word(part) == "number" else None


def _takes(program, name, values):
    """Tell whether a def has a name, and parameters of the kinds of the values."""
    kinds = ["truth" if isinstance(value, bool) else "num" for value in values]
    heads = [declared[2] for declared in program if declared[0] == "def" and declared[1] == name]
    return [[kind for _, kind in head] for head in heads] == [kinds]


# Each one tells what to answer, None if the parts behind its word make no command.
COMMANDS = {
    "row": _tell_row,
    "put": _do_put,
    "take": _do_take,
    "write": _do_write,
    "finish": _do_finish,
    "undo": _do_undo,
    "dead": _tell_dead,
    "offers": _tell_offers,
    "instead": _tell_instead,
    "lacks": _tell_lacks,
    "right": _tell_right,
    "show": _tell_program,
    "run": _tell_run,
}


class Desk:
    """A row that is led by lines."""

    def __init__(self):
        self.held = Kept(())

    def __eq__(self, other):
        return isinstance(other, Desk) and self.held == other.held

    def execute(self, line):
        """Do what a line says, and return the answers."""
        if not isinstance(line, str):
            raise Wrong(0)
        parts = [part for part in line.split(" ") if part]
        if "\n" in line or not parts or parts[0] not in COMMANDS:
            raise NoCommand(line)
        # A call that raises an error changes nothing: so another one is led on first.
        held = self.held.twin()
        act = COMMANDS[parts[0]]
        answers = act(held, parts[1:])
        if answers is None:
            raise NoCommand(line)
        self.held = held
        return answers

    def kept(self):
        """Return a twin of what is kept."""
        return self.held.twin()

    def twin(self):
        """Return another desk in the same state."""
        made = Desk()
        made.held = self.held.twin()
        return made
