"""Which programs are right: each rule is asked of one declaration after the other."""

from endsahead.errors import NoTree, Wrong
from endsahead.library import arm_of, arms_of, fields_of, kinds_in, sort_of
from endsahead.reader import read_program
from endsahead.spends import (
    expression_of, gives, kind_of, names_held, names_made, nodes_of, places_in, spent_behind, taken_and_made,
)
from endsahead.trees import blocks_of
from endsahead.words import is_row


def broken(program):
    """Return the tuple (index of the first declaration that breaks a rule, word of the rule), None if none does."""
    for index, declared in enumerate(program):
        word = _rule_broken(program[:index], declared)
        if word is not None:
            return (index, word)
    return None


def is_right(program):
    """Tell whether a program is right."""
    return broken(program) is None


def is_right_row(row):
    """Tell whether a row is that of a right program."""
    if not is_row(row):
        raise Wrong(0)
    try:
        program = read_program(row)
    except NoTree:
        return False
    return is_right(program)


def sights(program, index):
    """Return the tuples (word, sight) of the statements of a def, in order: the sight at the begin of each."""
    found = _sighted(program[:index], program[index])
    return [(statement[0], {name: sight[name] for name in sorted(sight)}) for statement, sight in found]


def _sighted(declarations, declared):
    """Return the tuples (statement, sight at its begin) of the blocks of a declaration, in order."""
    if declared[0] != "def":
        return []
    found = []
    around = []
    sight = dict(declared[2])
    for place, statement, at in places_in(declared[4]):
        if place == "statement":
            found.append((statement, dict(sight)))
            sight.update(dict(names_made(declarations, statement)))
        elif place == "begin":
            around.append(dict(sight))
            sight.update(dict(names_held(declarations, statement, at)))
        elif place == "end":
            sight = around.pop()
    return found


def _rule_broken(declarations, declared):
    """Return the word of the first rule that a declaration breaks, None if it breaks none."""
    sighted = _sighted(declarations, declared)
    for word in RULES:
        breaks = RULES[word]
        if breaks(declarations, declared, sighted):
            return word
    return None


def _breaks_name(declarations, declared, sighted):
    word, name = declared[0], declared[1]
    names = [name]
    if word in ("choice", "def"):
        names.extend([told for told, _ in declared[2]])
    if _can_be_seen(declarations, (), names):
        return True
    if word == "record":
        return _repeats_one([field for field, _ in declared[2]])
    return any([_can_be_seen(declarations, sight, [name, *told]) for sight, told in _names_told(sighted)])


def _can_be_seen(declarations, sight, names):
    """Tell whether one of the names stands twice, or can be seen already."""
    return _repeats_one(names) or any([name in sight or sort_of(declarations, name) is not None for name in names])


def _repeats_one(names):
    return len(set(names)) < len(names)


def _names_told(sighted):
    """Return the tuples (sight, names) of all names that statements tell together, and what these see."""
    found = []
    for statement, sight in sighted:
        if statement[0] == "let":
            found.append((sight, [statement[1]]))
        elif statement[0] == "open":
            found.append((sight, statement[2]))
        elif statement[0] == "match":
            found.extend([(sight, [name]) for _, name, _ in statement[3] if name is not None])
    return found


def _breaks_unknown(declarations, declared, sighted):
    known = ("num", "truth", *kinds_in(declarations))
    if not all([kind in known for kind in _kinds_in_head(declared)]):
        return True
    for statement, sight in sighted:
        if statement[0] == "let" and statement[2] not in known:
            return True
        if statement[0] in ("open", "match") and sort_of(declarations, statement[1]) != RECORD_OR_CHOICE[statement[0]]:
            return True
        if any([_is_unknown(declarations, sight, node) for node in nodes_of(expression_of(statement))]):
            return True
    return False


def _kinds_in_head(declared):
    """Return the kinds that stand in a declaration ahead of its block."""
    word = declared[0]
    if word in ("record", "choice"):
        return [kind for _, kind in declared[2] if kind is not None]
    if word == "given":
        return [*declared[2], declared[3]]
    if word == "def":
        return [*[kind for _, kind in declared[2]], declared[3]]
    return []


def _is_unknown(declarations, sight, node):
    """Tell whether an E is a call, a record or a name of something that is not there."""
    if node[0] == "call":
        return sort_of(declarations, node[1]) not in ("given", "def", "arm")
    if node[0] == "record":
        return sort_of(declarations, node[1]) != "record"
    return node[0] == "name" and node[1] not in sight and sort_of(declarations, node[1]) != "arm"


def _breaks_many(declarations, _, sighted):
    for statement, sight in sighted:
        if statement[0] == "open" and len(statement[2]) != len(fields_of(declarations, statement[1])):
            return True
        if any([_has_another_many(declarations, sight, node) for node in nodes_of(expression_of(statement))]):
            return True
    return False


def _has_another_many(declarations, sight, node):
    """Tell whether an E has another number of parts than are wanted."""
    if node[0] in ("call", "record"):
        kinds, _ = taken_and_made(declarations, node)
        return kinds is None or len(node[2]) != len(kinds)
    return node[0] == "name" and node[1] not in sight and arm_of(declarations, node[1])[1] is not None


def _breaks_arms(declarations, _, sighted):
    for statement, _ in sighted:
        if statement[0] == "match":
            told = [(arm, name is None) for arm, name, _ in statement[3]]
            if told != [(arm, part is None) for arm, part in arms_of(declarations, statement[1])]:
                return True
    return False


def _breaks_give(_, declared, sighted):
    if declared[0] != "def":
        return False
    if not gives(declared[4]):
        return True
    blocks = [declared[4]]
    for statement, _ in sighted:
        blocks.extend(blocks_of(statement))
    return any([gives((statement,)) for block in blocks for statement in block[:-1]])


def _breaks_kind(declarations, declared, sighted):
    for statement, sight in sighted:
        wanted = KINDS_WANTED.get(statement[0])
        if statement[0] == "let":
            wanted = statement[2]
        elif statement[0] in ("open", "match"):
            wanted = statement[1]
        elif statement[0] == "give":
            wanted = declared[3]
        if kind_of(declarations, sight, expression_of(statement)) != wanted:
            return True
    return False


def _breaks_spent(declarations, declared, _):
    return declared[0] == "def" and spent_behind(declarations, dict(declared[2]), (), declared[4]) is None


RECORD_OR_CHOICE = {"open": "record", "match": "choice"}
KINDS_WANTED = {"if": "truth", "repeat": "num"}
# In the order in which they are asked; each one counts on those ahead of it being kept.
RULES = {
    "name": _breaks_name,
    "unknown": _breaks_unknown,
    "many": _breaks_many,
    "arms": _breaks_arms,
    "give": _breaks_give,
    "kind": _breaks_kind,
    "spent": _breaks_spent,
}
