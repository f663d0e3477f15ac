"""Rows of trees, and the text of a program in lines."""

from endsahead.words import number_word

LEVELS = {"and": 1, "less": 2, "add": 3, "field": 4}
HIGHEST_LEVEL = 5
# Of each operator the levels that its sides want, of a field the one that its E wants.
WANTED = {"and": (1, 2), "less": (3, 3), "add": (3, 4), "field": (4,)}
OPERATORS = {"and": "and", "less": "<", "add": "+"}

# Words are shown by way of pieces. A piece is a word, a tuple (E or statement, level that its place wants),
# or one of these marks, which say where lines end: NEXT, and, for a line further in or out, IN and OUT.
NEXT = "NEXT"
IN = "IN"
OUT = "OUT"


def level_of(tree):
    """Return the level of an E."""
    return LEVELS.get(tree[0], HIGHEST_LEVEL)


def _spell_truth(tree):
    return ["true" if tree[1] else "false"]


def _spell_num(tree):
    return [number_word(tree[1])]


def _spell_name(tree):
    return [tree[1]]


def _spell_call(tree):
    return [tree[1], "(", *_with_commas([[(part, 1)] for part in tree[2]]), ")"]


def _spell_record(tree):
    return [tree[1], "{", *_with_commas([[(part, 1)] for part in tree[2]]), "}"]


def _spell_field(tree):
    return [(tree[1], WANTED["field"][0]), ".", tree[2]]


def _spell_operator(tree):
    left, right = WANTED[tree[0]]
    return [(tree[1], left), OPERATORS[tree[0]], (tree[2], right)]


def _spell_let(tree):
    return ["let", tree[1], ":", tree[2], "=", (tree[3], 1), ";"]


def _spell_open(tree):
    return ["open", tree[1], "{", *_with_commas([[name] for name in tree[2]]), "}", "=", (tree[3], 1), ";"]


def _spell_if(tree):
    pieces = ["if", (tree[1], 1), *_spell_block(tree[2])]
    if tree[3] is not None:
        pieces.extend(["else", *_spell_block(tree[3])])
    return pieces


def _spell_match(tree):
    return ["match", tree[1], (tree[2], 1), *_braced([_spell_case(case) for case in tree[3]])]


def _spell_case(case):
    arm, name, block = case
    return [arm, *_spell_block(block)] if name is None else [arm, name, *_spell_block(block)]


def _spell_repeat(tree):
    return ["repeat", (tree[1], 1), *_spell_block(tree[2])]


def _spell_give(tree):
    return ["give", (tree[1], 1), ";"]


def _spell_block(block):
    return _braced([[(statement, 1)] for statement in block])


def _braced(groups):
    """Return the pieces of groups that stand on lines of their own, with braces around them."""
    return ["{", IN, *_parted(groups, NEXT), OUT, "}"] if groups else ["{", "}"]


def _with_commas(groups):
    return _parted(groups, ",")


def _parted(groups, between):
    """Return the pieces of all groups, with one piece between two groups."""
    pieces = []
    for group in groups:
        if pieces:
            pieces.append(between)
        pieces.extend(group)
    return pieces


SPELLINGS = {
    "num": _spell_num,
    "truth": _spell_truth,
    "name": _spell_name,
    "call": _spell_call,
    "record": _spell_record,
    "field": _spell_field,
    "add": _spell_operator,
    "less": _spell_operator,
    "and": _spell_operator,
    "let": _spell_let,
    "open": _spell_open,
    "if": _spell_if,
    "match": _spell_match,
    "repeat": _spell_repeat,
    "give": _spell_give,
}


def _pieces_of(tree, wanted):
    """Return the pieces of an E or a statement, one step deep, at a place that wants a level."""
    if level_of(tree) < wanted:
        return ["(", (tree, 1), ")"]
    spell = SPELLINGS[tree[0]]
    return spell(tree)


def _spell_declaration(declared):
    word, name = declared[0], declared[1]
    if word == "record":
        return [word, name, "{", *_with_commas([_with_kind(field, kind) for field, kind in declared[2]]), "}"]
    if word == "choice":
        return [word, name, "{", *_with_commas([_spell_arm(arm, part) for arm, part in declared[2]]), "}"]
    if word == "given":
        return [word, name, "(", *_with_commas([[kind] for kind in declared[2]]), ")", ":", declared[3], ";"]
    if word == "def":
        parameters = _with_commas([_with_kind(parameter, kind) for parameter, kind in declared[2]])
        return [word, name, "(", *parameters, ")", ":", declared[3], *_spell_block(declared[4])]
    return [word, name, ";"]


def _with_kind(name, kind):
    return [name, ":", kind]


def _spell_arm(arm, part):
    return [arm] if part is None else _with_kind(arm, part)


def _spell_program(program):
    return _parted([_spell_declaration(declared) for declared in program], NEXT)


def _spelled(pieces):
    """Return the words and marks of pieces, without recursion: trees may be deep."""
    found = []
    waiting = pieces[::-1]
    while waiting:
        piece = waiting.pop()
        if isinstance(piece, str):
            found.append(piece)
        else:
            tree, wanted = piece
            waiting.extend(_pieces_of(tree, wanted)[::-1])
    return found


def _is_mark(word):
    return word in (NEXT, IN, OUT)


def _words_of(pieces):
    return tuple([word for word in _spelled(pieces) if not _is_mark(word)])


def row_of(program):
    """Return the row of a program."""
    return _words_of(_spell_program(program))


def row_of_expression(tree, level):
    """Return the words of an E at a place that wants a level."""
    return _words_of([(tree, level)])


def row_of_block(block):
    """Return the words of a block."""
    return _words_of(_spell_block(block))


def show_program(program):
    """Return the text of a program in lines."""
    lines = []
    line = []
    depth = 0
    for word in _spelled(_spell_program(program)):
        if not _is_mark(word):
            line.append(word)
            continue
        lines.append("  " * depth + " ".join(line))
        line = []
        if word == IN:
            depth += 1
        elif word == OUT:
            depth -= 1
    # The last line is that of a declaration, or of its last brace: nothing stands around it.
    lines.append(" ".join(line))
    return "\n".join(lines)
