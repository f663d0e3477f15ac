"""Where a row that is read word by word stands, and how its E are read, operand by operand."""

from endsahead.forms import is_name
from endsahead.library import arm_of, fields_of, function_of, is_once
from endsahead.words import sort_of_word

FREE_WORDS = {"true": "truth", "false": "truth"}
OPERATORS = ("+", "<", "and")
CLOSERS = {"(": ")", "{": "}"}


class Opened:
    """An E that has not ended."""

    def __init__(self, aim, in_brackets):
        self.aim = aim
        self.in_brackets = in_brackets
        # The aims of the first operand of its last sum, and of its last operand.
        self.aim_of_sum = aim
        self.aim_of_operand = aim
        # Whether an operand has to begin, and the kind of the last one, as far as it has been read.
        self.waits = True
        self.kind = None
        # Which operators it has: `+` in its last sum, `<` ahead of this sum, `and` ahead of all that.
        self.has_plus = False
        self.has_less = False
        self.has_and = False

    def kind_of_sum(self):
        """Return the kind of the last sum, None if it has none."""
        return None if self.has_plus and self.kind != "num" else self.kind

    def kind_at_end(self):
        """Return the kind of the E if it ends here, None if it has none."""
        kind = self.kind_of_sum()
        if self.has_less:
            kind = "truth" if kind == "num" else None
        return None if self.has_and and kind != "truth" else kind

    def fits(self, operator):
        """Tell whether an operator can stand here."""
        if operator == "and":
            return self.aim == "truth" and self.kind_at_end() == "truth"
        aims = ("num", "truth") if operator == "+" else ("truth",)
        return self.kind_of_sum() == "num" and self.aim_of_sum in aims

    def go_behind(self, operator):
        """Wait for the operand behind an operator."""
        self.aim_of_operand = "truth" if operator == "and" else "num"
        if operator != "+":
            self.aim_of_sum = self.aim_of_operand
        self.has_plus = operator == "+"
        self.has_less = operator == "<" or (operator == "+" and self.has_less)
        self.has_and = operator == "and" or self.has_and
        self.waits = True

    def twin(self):
        """Return another one that stands where this one does."""
        made = Opened(self.aim, self.in_brackets)
        made.aim_of_sum, made.aim_of_operand = self.aim_of_sum, self.aim_of_operand
        made.waits, made.kind = self.waits, self.kind
        made.has_plus, made.has_less, made.has_and = self.has_plus, self.has_less, self.has_and
        return made


class Call:
    """A call or a record that has not ended: the kinds of its parts, and the kind that it makes."""

    def __init__(self, kinds, made):
        self.kinds = kinds
        self.made = made
        # The index of the part that is being read, -1 ahead of the bracket.
        self.at = -1

    def twin(self):
        """Return another one that stands where this one does."""
        made = Call(self.kinds, self.made)
        made.at = self.at
        return made


class Block:
    """A block that is open, or, its word being "match", what stands between the braces of a match."""

    def __init__(self, word, spent):
        self.word = word
        self.gave = False
        # What is spent at its begin, and, as soon as it has ended, at its end, names made within it left out.
        self.before = dict(spent)
        self.behind = {}
        # Of the block of a case the kind of its part, as long as the name of it has not come.
        self.part = None
        # Of a match the tuples (arm, kind of its part or None) that have not come yet.
        self.arms = ()
        # The blocks of the same statement that have ended: of a match those of its cases, of an other the first one.
        self.closed = []

    def twin(self):
        """Return another one that stands where this one does; those that have ended are never changed again."""
        made = Block(self.word, self.before)
        made.gave, made.behind = self.gave, dict(self.behind)
        made.part, made.arms, made.closed = self.part, self.arms, list(self.closed)
        return made


class Statement:
    """A statement that has begun, up to its `;`, or to the `{` behind its E."""

    def __init__(self, word):
        self.word = word
        self.kind = None
        self.names = []

    def twin(self):
        """Return another one that stands where this one does."""
        made = Statement(self.word)
        made.kind, made.names = self.kind, list(self.names)
        return made


class Head:
    """A declaration that has begun, of a function up to the end of its block."""

    def __init__(self, word):
        self.word = word
        self.name = None
        self.names = []
        self.kinds = []

    def twin(self):
        """Return another one that stands where this one does."""
        made = Head(self.word)
        made.name, made.names, made.kinds = self.name, list(self.names), list(self.kinds)
        return made


class Stand:
    """Where a row stands: what was read, what is open, and the steps that are still to be taken, the next one last."""

    def __init__(self):
        self.steps = ["DECLARATIONS"]
        # The declarations that have ended, functions as givens, and the names of all declarations and arms.
        self.declarations = ()
        self.declared = {}
        self.head = None
        # Of each name that can be seen its kind, and how many blocks are open round that in which it was made.
        self.names = {}
        self.spent = {}
        self.blocks = []
        # The block of an if that has just ended, as long as an other may come.
        self.first_block = None
        self.statement = None
        # The E and calls that are open, the innermost last.
        self.nest = []

    def twin(self):
        """Return another one that stands where this one does."""
        made = Stand()
        made.steps, made.declarations, made.declared = list(self.steps), self.declarations, dict(self.declared)
        made.names, made.spent = dict(self.names), dict(self.spent)
        made.blocks = [block.twin() for block in self.blocks]
        made.nest = [thing.twin() for thing in self.nest]
        made.head = None if self.head is None else self.head.twin()
        made.first_block = None if self.first_block is None else self.first_block.twin()
        made.statement = None if self.statement is None else self.statement.twin()
        return made

    def plan(self, steps):
        """Put steps ahead of all that are still to be taken."""
        self.steps.extend(steps[::-1])

    def is_new(self, word):
        """Tell whether a word is a name that cannot be seen yet."""
        if not is_name(word) or word in self.declared or word in self.names:
            return False
        return self.statement is None or word not in self.statement.names

    def can_stand(self, name):
        """Tell whether a name that can be seen can stand in an E."""
        kind, depth = self.names[name]
        if not is_once(self.declarations, kind):
            return True
        repeats = [at for at, block in enumerate(self.blocks) if block.word == "repeat"]
        return name not in self.spent and (not repeats or depth >= repeats[-1])

    def begin_block(self, word, spent):
        """Begin a block, with what is spent at its begin, and return it."""
        block = Block(word, spent)
        self.blocks.append(block)
        self.spent = dict(spent)
        return block

    def end_block(self):
        """End the innermost block, with all names that were made within it, and return it."""
        block = self.blocks.pop()
        gone = [name for name in self.names if self.names[name][1] >= len(self.blocks)]
        for name in gone:
            del self.names[name]
        block.behind = {name: True for name in self.spent if name in self.names}
        return block


def have_all_given(blocks):
    """Tell whether all blocks give."""
    return all([block.gave for block in blocks])


def spent_behind_all(before, blocks):
    """Return what is spent behind blocks that have ended, those that give left out; what was before, if all give."""
    ends = [block.behind for block in blocks if not block.gave]
    return {name: True for end in ends or [before] for name in end}


def leads(declarations, kind, aim):
    """Tell whether a kind leads to an aim: by fields, `+ 0` and `< 0`."""
    seen = {}
    waiting = [kind]
    while waiting:
        one = waiting.pop()
        if one == aim or (one == "num" and aim == "truth"):
            return True
        if one not in seen:
            seen[one] = True
            waiting.extend([part for _, part in fields_of(declarations, one)])
    return False


def take_operand(stand, word, _):
    """Take the word with which an operand begins."""
    tree = stand.nest[-1]
    tree.waits = False
    if word == "(":
        stand.nest.append(Opened(tree.aim_of_operand, True))
        stand.plan(("OPERAND", "BEHIND", ")"))
        return True
    kinds, kind = _taken_and_made(stand, word)
    if kind is None or not leads(stand.declarations, kind, tree.aim_of_operand):
        return False
    if kinds is None:
        tree.kind = kind
        if word in stand.names and is_once(stand.declarations, kind):
            stand.spent[word] = True
    else:
        tree.kind = None
        stand.nest.append(Call(kinds, kind))
        stand.plan(_steps_of_parts(len(kinds), "{" if fields_of(stand.declarations, word) else "("))
    return True


def _taken_and_made(stand, word):
    """Return the tuple (kinds of its parts, kind) of an operand that begins with a word.

    The kinds are None if no brackets come behind the word, the kind is None if the word cannot stand there.
    """
    if word in FREE_WORDS or sort_of_word(word) == "number":
        return None, FREE_WORDS.get(word, "num")
    if word in stand.names:
        return None, (stand.names[word][0] if stand.can_stand(word) else None)
    arm = arm_of(stand.declarations, word)
    if arm is not None:
        return (None if arm[1] is None else (arm[1],)), arm[0]
    fields = fields_of(stand.declarations, word)
    if fields:
        return tuple([kind for _, kind in fields]), word
    return function_of(stand.declarations, word) or (None, None)


def _steps_of_parts(many, opener):
    """Return the steps of so many parts with `,` between them, in brackets, and of the end of their call."""
    steps = []
    for _ in range(many):
        steps.extend([",", "PART", "OPERAND", "BEHIND"])
    return [opener, *steps[1:], CLOSERS[opener], "CALLED"]


def take_behind(stand, word, _):
    """Take the word behind an operand; one that ends the E is for the next step."""
    tree = stand.nest[-1]
    if word == ".":
        stand.plan(("FIELD", "BEHIND"))
        return bool(fields_on(stand, tree))
    if word in OPERATORS:
        if not tree.fits(word):
            return False
        tree.go_behind(word)
        stand.plan(("OPERAND", "BEHIND"))
        return True
    kind = tree.kind_at_end()
    if not _can_end(stand, tree, kind):
        return False
    stand.nest.pop()
    if tree.in_brackets:
        stand.nest[-1].kind = kind
    return None


def _can_end(stand, tree, kind):
    if tree.in_brackets:
        return kind is not None and leads(stand.declarations, kind, tree.aim)
    return kind == tree.aim


def fields_on(stand, tree):
    """Return the dict of those fields of the last operand of an E that lead to its aim, with their kinds."""
    fields = fields_of(stand.declarations, tree.kind)
    return {field: kind for field, kind in fields if leads(stand.declarations, kind, tree.aim_of_operand)}


def take_field(stand, word, _):
    """Take the name of a field."""
    tree = stand.nest[-1]
    fields = fields_on(stand, tree)
    tree.kind = fields.get(word)
    return word in fields


def begin_part(stand):
    """Begin the next part of the innermost call."""
    call = stand.nest[-1]
    call.at += 1
    stand.nest.append(Opened(call.kinds[call.at], False))


def end_call(stand):
    """End the innermost call: it is the operand of the E in which it stands."""
    call = stand.nest.pop()
    stand.nest[-1].kind = call.made


# Each step takes a word: it tells whether the word can stand there, None if the next step has to take it.
E_STEPS = {"OPERAND": take_operand, "BEHIND": take_behind, "FIELD": take_field}
# What happens at once behind a word.
E_ACTIONS = {"PART": begin_part, "CALLED": end_call}
