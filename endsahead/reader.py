"""Reading rows as trees: a list tells what is still to be read, the next step last."""

from endsahead.errors import NoTree, Wrong
from endsahead.forms import is_kind, is_name
from endsahead.shower import WANTED, level_of
from endsahead.words import cut, is_row, number_of, sort_of_word

DECLARATION_WORDS = ("plain", "once", "record", "choice", "given", "def")
STATEMENT_WORDS = ("let", "open", "if", "match", "repeat", "give")

# The steps behind the word with which a declaration or a statement begins. A step that is a WORD reads this word;
# behind ANY, SOME and MORE stands the step that is repeated, behind E what follows it and begins with a `{`.
BEHIND_WORD = {
    "plain": ("NAME", ";"),
    "once": ("NAME", ";"),
    "record": ("NAME", "{", "SOME FIELD", "}"),
    "choice": ("NAME", "{", "SOME ARM", "}"),
    "given": ("NAME", "(", "ANY KIND", ")", ":", "KIND", ";"),
    "def": ("NAME", "(", "ANY FIELD", ")", ":", "KIND", "BLOCK"),
    "let": ("NAME", ":", "KIND", "=", "E", ";"),
    "open": ("NAME", "{", "SOME NAME", "}", "=", "E", ";"),
    "if": ("E BLOCK", "BLOCK", "OTHER"),
    "match": ("NAME", "E CASES", "{", "BEGIN", "CASES", "END", "}"),
    "repeat": ("E BLOCK", "BLOCK"),
    "give": ("E", ";"),
}
# Steps that always are the same other steps. Between BEGIN and END the members of one tuple are made.
ALWAYS = {
    "PROGRAM": ("BEGIN", "DECLARATIONS", "END"),
    "BLOCK": ("{", "BEGIN", "STATEMENTS", "END", "}"),
    "FIELD": ("BEGIN", "NAME", ":", "KIND", "END"),
    "ARM": ("BEGIN", "NAME", "PART", "END"),
    "CASE": ("BEGIN", "NAME", "HELD", "BLOCK", "END"),
    "E1": ("E2", "ANDS"),
    "E2": ("E3", "LESS"),
    "E3": ("E4", "ADDS"),
    "E4": ("OPERAND", "DOTS"),
}
# Steps that are other steps if the next word is the first one of these.
IF_NEXT = {
    "ANDS": ("and", "E2", "JOIN and", "ANDS"),
    "LESS": ("<", "E3", "JOIN less"),
    "ADDS": ("+", "E4", "JOIN add", "ADDS"),
    "DOTS": (".", "NAME", "JOIN field", "DOTS"),
    "PART": (":", "KIND"),
    "OTHER": ("else", "BLOCK"),
}
# Those of them that make None otherwise.
ELSE_NONE = ("PART", "OTHER")


class Reading:
    """A row that is being read: what is still to be read of it, and what is made of it."""

    def __init__(self, row, step):
        self.words = row
        self.at = 0
        self.todo = [step]
        # One list for each tuple that is being made, the innermost one last.
        self.made = [[]]
        # Of each E that is open, the innermost one last, what follows it and begins with a `{`, if anything.
        self.followers = []
        # Of each E that is made, but has no place yet, the indexes of the `(` directly round it.
        self.around = []
        self.unclosed = []
        self.needless = []

    def word(self, ahead):
        """Return the word that comes so many words behind the next one, None behind the end."""
        at = self.at + ahead
        return self.words[at] if at < len(self.words) else None

    def plan(self, steps):
        """Put steps ahead of all that is still to be read."""
        self.todo.extend(steps[::-1])

    def make(self, thing):
        """Put a thing into the innermost tuple."""
        self.made[-1].append(thing)

    def step_over(self, fits):
        """Go behind the next word, if it fits."""
        if not fits:
            raise NoTree(self.at)
        self.at += 1


def read_program(row):
    """Return the program whose row it is, with brackets where one likes."""
    if not is_row(row):
        raise Wrong(0)
    return _tree_of(_read(row, "PROGRAM"))


def read_text(text):
    """Return the program whose row the text shows."""
    if not isinstance(text, str):
        raise Wrong(0)
    return read_program(cut(text))


def read_expression(row):
    """Return the E whose row it is."""
    if not is_row(row):
        raise Wrong(0)
    return _tree_of(_read(row, "E"))


def needless(row):
    """Return the indexes of all brackets that open round an E of a program, and are not needed."""
    return tuple(sorted(_read(row, "PROGRAM").needless))


def _tree_of(reading):
    return reading.made[0][0]


def _read(row, step):
    """Return the reading of a whole row. It takes step by step, without recursion: trees may be deep."""
    reading = Reading(row, step)
    while reading.todo:
        _take_step(reading, reading.todo.pop())
    if reading.at < len(row):
        raise NoTree(reading.at)
    return reading


def _take_step(reading, step):
    if step in ALWAYS:
        reading.plan(ALWAYS[step])
    elif step in IF_NEXT:
        _take_if_next(reading, step)
    elif sort_of_word(step) is not None:
        reading.step_over(reading.word(0) == step)
    else:
        name, _, rest = step.partition(" ")
        take = STEPS[name]
        take(reading, rest)


def _take_if_next(reading, step):
    if reading.word(0) == IF_NEXT[step][0]:
        reading.plan(IF_NEXT[step])
    elif step in ELSE_NONE:
        reading.make(None)


def _begin(reading, _):
    reading.made.append([])


def _end(reading, _):
    members = reading.made.pop()
    reading.make(tuple(members))


def _read_name(reading, _):
    _keep_word(reading, is_name(reading.word(0)))


def _read_kind(reading, _):
    _keep_word(reading, is_kind(reading.word(0)))


def _read_held(reading, _):
    """Read the name that a case has, if its arm has a part."""
    if is_name(reading.word(0)):
        _keep_word(reading, True)
    else:
        reading.make(None)


def _keep_word(reading, fits):
    word = reading.word(0)
    reading.step_over(fits)
    reading.make(word)


def _read_declarations(reading, _):
    if reading.word(0) is not None:
        _read_worded(reading, reading.word(0) in DECLARATION_WORDS, "DECLARATIONS")


def _read_statements(reading, _):
    if reading.word(0) in STATEMENT_WORDS:
        _read_worded(reading, True, "STATEMENTS")


def _read_worded(reading, fits, then):
    """Read what begins with a word of its own, and then go on."""
    word = reading.word(0)
    reading.step_over(fits)
    reading.made.append([word])
    reading.plan((*BEHIND_WORD[word], "END", then))


def _read_cases(reading, _):
    if is_name(reading.word(0)):
        reading.plan(("CASE", "CASES"))


def _read_any(reading, step):
    """Read any many, perhaps none, in round brackets."""
    if reading.word(0) == ")":
        reading.make(())
    else:
        reading.plan((f"SOME {step}",))


def _read_some(reading, step):
    """Read at least one."""
    reading.plan(("BEGIN", step, f"MORE {step}", "END"))


def _read_more(reading, step):
    if reading.word(0) == ",":
        reading.plan((",", step, f"MORE {step}"))


def _read_e(reading, follower):
    reading.followers.append(follower)
    reading.plan(("E1", "PLACED"))


def _placed(reading, _):
    """End an E that stands in no other one as the side of an operator."""
    reading.followers.pop()
    _judge_brackets(reading, reading.made[-1][-1], 1)


def _read_operand(reading, _):
    word = reading.word(0)
    if is_name(word):
        _read_named(reading, word)
    elif word == "(":
        reading.unclosed.append(reading.at)
        reading.followers.append("")
        reading.plan(("(", "E1", ")", "CLOSED"))
    else:
        reading.step_over(sort_of_word(word) == "number" or word in ("true", "false"))
        reading.make(("truth", word == "true") if word in ("true", "false") else ("num", number_of(word)))
        reading.around.append([])


def _read_named(reading, name):
    """Read an operand that begins with a name."""
    reading.step_over(True)
    behind = reading.word(0)
    if behind == "(":
        reading.made.append(["call", name])
        reading.plan(("(", "ANY E", ")", "END", "UNPLACED"))
    elif behind == "{" and _begins_parts(reading):
        reading.made.append(["record", name])
        reading.plan(("{", "SOME E", "}", "END", "UNPLACED"))
    else:
        reading.make(("name", name))
        reading.around.append([])


def _begins_parts(reading):
    """Tell whether a `{` behind a name in an E begins the parts of a record.

    If it can be neither these nor what follows the E, either answer leads to the same NoTree.
    """
    follower = reading.followers[-1]
    if follower == "BLOCK":
        return not _begins_inside_block(reading.word(1))
    if follower == "CASES":
        return not _begins_cases(reading)
    return True


def _begins_cases(reading):
    """Tell whether behind a `{` come the cases of a match, if it can be told."""
    if not is_name(reading.word(1)):
        return reading.word(1) == "}"
    return is_name(reading.word(2)) or (reading.word(2) == "{" and _begins_inside_block(reading.word(3)))


def _begins_inside_block(word):
    """Tell whether a word comes behind the `{` of a block."""
    return word == "}" or word in STATEMENT_WORDS


def _unplaced(reading, _):
    reading.around.append([])


def _closed(reading, _):
    """Put a pair of brackets round the E that was made last."""
    reading.followers.pop()
    index = reading.unclosed.pop()
    reading.around[-1] = [index, *reading.around[-1]]


def _join(reading, word):
    """Make the E of an operator, or a field, of what was made last."""
    sides = reading.made[-1]
    right = sides.pop()
    left = sides.pop()
    if word != "field":
        _judge_brackets(reading, right, WANTED[word][1])
    _judge_brackets(reading, left, WANTED[word][0])
    reading.make((word, left, right))
    reading.around.append([])


def _judge_brackets(reading, tree, wanted):
    """Keep which brackets round the last E that has no place yet are needless, its place wanting a level."""
    indexes = reading.around.pop()
    reading.needless.extend(indexes[:-1])
    if indexes and level_of(tree) >= wanted:
        reading.needless.append(indexes[-1])


STEPS = {
    "BEGIN": _begin,
    "END": _end,
    "NAME": _read_name,
    "KIND": _read_kind,
    "HELD": _read_held,
    "DECLARATIONS": _read_declarations,
    "STATEMENTS": _read_statements,
    "CASES": _read_cases,
    "ANY": _read_any,
    "SOME": _read_some,
    "MORE": _read_more,
    "E": _read_e,
    "PLACED": _placed,
    "OPERAND": _read_operand,
    "UNPLACED": _unplaced,
    "CLOSED": _closed,
    "JOIN": _join,
}
