"""Which rows can be read word by word, and what is there at their end."""

from endsahead.forms import is_name
from endsahead.library import arms_of, fields_of, kinds_in
from endsahead.standing import (
    E_ACTIONS, E_STEPS, Call, Head, Opened, Stand, Statement, have_all_given, spent_behind_all,
)
from endsahead.stocks import stock_of
from endsahead.words import sort_of_word

# The steps behind the word with which a declaration or a statement begins. A step that is a WORD takes this word.
BEHIND_WORD = {
    "plain": ("NEW", ";", "DECLARED"),
    "once": ("NEW", ";", "DECLARED"),
    "record": ("NEW", "{", "FIELD_TOLD", ":", "KIND", "MORE FIELD", "}", "DECLARED"),
    "choice": ("NEW", "{", "ARM_TOLD", "PART_TOLD", "MORE ARM", "}", "DECLARED"),
    "given": ("NEW", "(", "ANY TAKEN", ")", ":", "KIND", ";", "DECLARED"),
    "def": ("NEW", "(", "ANY PARAMETER", ")", ":", "KIND", "FUNCTION", "{", "STATEMENTS"),
    "let": ("TOLD", ":", "AIM", "=", "OPERAND", "BEHIND", ";", "MADE"),
    "open": ("RECORD", "=", "OPERAND", "BEHIND", ";", "MADE"),
    "if": ("OPERAND", "BEHIND", "{", "BLOCK", "STATEMENTS"),
    "match": ("CHOICE", "OPERAND", "BEHIND", "{", "MATCH", "CASES"),
    "repeat": ("OPERAND", "BEHIND", "{", "BLOCK", "STATEMENTS"),
    "give": ("OPERAND", "BEHIND", ";", "GAVE"),
}
DECLARATION_WORDS = ("plain", "once", "record", "choice", "given", "def")
STATEMENT_WORDS = ("let", "open", "if", "match", "repeat", "give")
# Steps that come again behind each `,`.
GROUPS = {
    "FIELD": ("FIELD_TOLD", ":", "KIND"),
    "ARM": ("ARM_TOLD", "PART_TOLD"),
    "TAKEN": ("KIND",),
    "PARAMETER": ("PARAMETER_TOLD", ":", "KIND", "PARAMETER_MADE"),
}


def can_be_read(row):
    """Tell whether a row can be read."""
    return first_unread(row) is None


def first_unread(row):
    """Return the index of the first word that cannot stand behind those ahead of it, None if there is none."""
    stand = Stand()
    for index, word in enumerate(row):
        if not take_word(stand, word):
            return index
    return None


def stand_at(row):
    """Return where a row that can be read stands at its end."""
    stand = Stand()
    for word in row:
        take_word(stand, word)
    return stand


def function_at(row):
    """Return the name of the function that is open, None if there is none."""
    return function_open(stand_at(row))


def function_open(stand):
    """Return the name of the function that is open, None if there is none."""
    return stand.head.name if stand.head is not None and stand.head.word == "def" else None


def names_at(row):
    """Return the dict from each name that can be seen to the tuple (kind, whether it can stand in an E)."""
    stand = stand_at(row)
    return {name: (stand.names[name][0], stand.can_stand(name)) for name in sorted(stand.names)}


def stock_at(row):
    """Return the stock of the names that can stand in an E."""
    return stock_there(stand_at(row))


def stock_there(stand):
    """Return the stock of the names that can stand in an E."""
    kinds = [stand.names[name][0] for name in stand.names if stand.can_stand(name)]
    return stock_of(stand.declarations, kinds)


def kinds_to_come(row):
    """Return the tuple of the kinds that are still to come in the unfinished statement, from the innermost one on."""
    return kinds_awaited(stand_at(row))


def kinds_awaited(stand):
    """Return the tuple of the kinds that are still to come in the unfinished statement, from the innermost one on."""
    found = []
    for thing in stand.nest[::-1]:
        if isinstance(thing, Call):
            found.extend(thing.kinds[thing.at + 1:])
        elif thing.waits:
            found.append(thing.aim_of_operand)
    return tuple(found)


def take_word(stand, word):
    """Take the next word; tell whether it can stand there."""
    took = None
    while took is None:
        step, _, rest = stand.steps.pop().partition(" ")
        if sort_of_word(step) is not None:
            took = word == step
        elif step in E_STEPS:
            take = E_STEPS[step]
            took = take(stand, word, rest)
        else:
            take = STEPS[step]
            took = take(stand, word, rest)
    if took:
        _act(stand)
    return took


def _act(stand):
    """Do all that happens at once behind the word that was taken."""
    while stand.steps[-1] in E_ACTIONS or stand.steps[-1] in ACTIONS:
        step = stand.steps.pop()
        if step in E_ACTIONS:
            act = E_ACTIONS[step]
            act(stand)
        else:
            act = ACTIONS[step]
            act(stand)


def _take_declarations(stand, word, _):
    if word not in DECLARATION_WORDS:
        return False
    stand.head = Head(word)
    stand.plan((*BEHIND_WORD[word], "DECLARATIONS"))
    return True


def _take_new(stand, word, _):
    stand.head.name = word
    return _declare_name(stand, word)


def _declare_name(stand, word):
    """Keep a name of a declaration or an arm; tell whether it can stand there."""
    fits = stand.is_new(word)
    stand.declared[word] = True
    return fits


def _take_field_told(stand, word, _):
    fits = is_name(word) and word not in stand.head.names
    stand.head.names.append(word)
    return fits


def _take_arm_told(stand, word, _):
    stand.head.names.append(word)
    return _declare_name(stand, word)


def _take_part_told(stand, word, _):
    """Take the `:` ahead of the kind of an arm's part, if it has one."""
    if word == ":":
        stand.plan(("KIND",))
        return True
    stand.head.kinds.append(None)
    return None


def _take_parameter_told(stand, word, _):
    stand.head.names.append(word)
    return stand.is_new(word)


def _take_kind(stand, word, _):
    stand.head.kinds.append(word)
    return _is_known(stand, word)


def _is_known(stand, word):
    return word in ("num", "truth") or word in kinds_in(stand.declarations)


def _take_any(stand, word, group):
    """Begin any many, perhaps none, in round brackets."""
    if word != ")":
        stand.plan((*GROUPS[group], f"MORE {group}"))
    return None


def _take_more(stand, word, group):
    """Take the `,` ahead of one more."""
    if word != ",":
        return None
    stand.plan((*GROUPS[group], f"MORE {group}"))
    return True


def _take_statements(stand, word, _):
    """Take the first word of a statement, or the `}` of the block."""
    block = stand.blocks[-1]
    if word == "}" and (block.gave or block.word != "def"):
        _end_block(stand)
        return True
    if word not in STATEMENT_WORDS or block.gave:
        return False
    stand.statement = Statement(word)
    stand.plan((*BEHIND_WORD[word], "STATEMENTS"))
    if word in ("if", "repeat"):
        _aim_at(stand, "truth" if word == "if" else "num")
    elif word == "give":
        _aim_at(stand, stand.head.kinds[-1])
    return True


def _aim_at(stand, kind):
    """Wait for the E of the statement, which is to have a kind."""
    stand.statement.kind = kind
    stand.nest.append(Opened(kind, False))


def _take_told(stand, word, _):
    fits = stand.is_new(word)
    stand.statement.names.append(word)
    return fits


def _take_aim(stand, word, _):
    _aim_at(stand, word)
    return _is_known(stand, word)


def _take_record(stand, word, _):
    fields = fields_of(stand.declarations, word)
    _aim_at(stand, word)
    steps = []
    for _ in fields:
        steps.extend([",", "TOLD"])
    stand.plan(("{", *steps[1:], "}"))
    return len(fields) > 0


def _take_choice(stand, word, _):
    _aim_at(stand, word)
    return len(arms_of(stand.declarations, word)) > 0


def _take_cases(stand, word, _):
    """Take the name of the next arm, or, behind the last one, the `}` of the match."""
    around = stand.blocks[-1]
    if not around.arms:
        block = stand.end_block()
        _end_branches(stand, block, block.closed)
        return word == "}"
    arm, part = around.arms[0]
    around.arms = around.arms[1:]
    block = stand.begin_block("case", around.before)
    block.part = part
    steps = ("{", "STATEMENTS", "CASES")
    stand.plan(steps if part is None else ("HELD", *steps))
    return word == arm


def _take_held(stand, word, _):
    """Take the name of a case."""
    fits = stand.is_new(word)
    block = stand.blocks[-1]
    stand.names[word] = (block.part, len(stand.blocks) - 1)
    block.part = None
    return fits


def _take_else(stand, word, _):
    """Take the `else` behind the first block of an if, if it comes."""
    first = stand.first_block
    stand.first_block = None
    if word != "else":
        return None
    block = stand.begin_block("else", first.before)
    block.closed.append(first)
    stand.plan(("{", "STATEMENTS"))
    return True


def _declare(stand):
    """End a declaration."""
    head = stand.head
    declared = (head.word, head.name)
    if head.word in ("record", "choice"):
        declared = (*declared, tuple(zip(head.names, head.kinds)))
    elif head.word in ("given", "def"):
        declared = ("given", head.name, tuple(head.kinds[:-1]), head.kinds[-1])
    stand.declarations = (*stand.declarations, declared)
    stand.head = None


def _make_parameter(stand):
    stand.names[stand.head.names[-1]] = (stand.head.kinds[-1], 0)


def _begin_function(stand):
    stand.begin_block("def", {})


def _begin_block(stand):
    """Begin the block of an if or a repeat."""
    stand.begin_block(stand.statement.word, stand.spent)
    stand.statement = None


def _begin_match(stand):
    block = stand.begin_block("match", stand.spent)
    block.arms = arms_of(stand.declarations, stand.statement.kind)
    stand.statement = None


def _make_names(stand):
    """End a let or an open: its names can be seen from here on."""
    told = stand.statement
    kinds = [told.kind] if told.word == "let" else [kind for _, kind in fields_of(stand.declarations, told.kind)]
    for name, kind in zip(told.names, kinds):
        stand.names[name] = (kind, len(stand.blocks) - 1)
    stand.statement = None


def _give(stand):
    stand.blocks[-1].gave = True
    stand.statement = None


def _end_block(stand):
    """End the innermost block, and what ends with it."""
    block = stand.end_block()
    if block.word == "def":
        _declare(stand)
        stand.spent = {}
    elif block.word == "if":
        stand.spent = block.before if block.gave else block.behind
        stand.first_block = block
        stand.plan(("ELSE",))
    elif block.word == "repeat":
        stand.spent = block.before
    elif block.word == "else":
        _end_branches(stand, block, [*block.closed, block])
    else:
        around = stand.blocks[-1]
        around.closed.append(block)
        # The next case begins with what was spent ahead of all cases; behind the last one only the `}` comes.
        stand.spent = dict(around.before) if around.arms else spent_behind_all(around.before, around.closed)


def _end_branches(stand, block, ended):
    """Go behind an if with an other, or a match, all the blocks of which have ended."""
    stand.spent = spent_behind_all(block.before, ended)
    stand.blocks[-1].gave = have_all_given(ended)


STEPS = {
    "DECLARATIONS": _take_declarations,
    "NEW": _take_new,
    "FIELD_TOLD": _take_field_told,
    "ARM_TOLD": _take_arm_told,
    "PART_TOLD": _take_part_told,
    "PARAMETER_TOLD": _take_parameter_told,
    "KIND": _take_kind,
    "ANY": _take_any,
    "MORE": _take_more,
    "STATEMENTS": _take_statements,
    "TOLD": _take_told,
    "AIM": _take_aim,
    "RECORD": _take_record,
    "CHOICE": _take_choice,
    "CASES": _take_cases,
    "HELD": _take_held,
    "ELSE": _take_else,
}
ACTIONS = {
    "DECLARED": _declare,
    "PARAMETER_MADE": _make_parameter,
    "FUNCTION": _begin_function,
    "BLOCK": _begin_block,
    "MATCH": _begin_match,
    "MADE": _make_names,
    "GAVE": _give,
}
