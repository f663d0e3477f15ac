"""Kinds of E, which blocks give, and which names are spent, rule by rule on trees."""

from endsahead.library import arm_of, arms_of, fields_of, function_of, once_kinds
from endsahead.trees import PLACES_OF_E, blocks_of, parts_of

# Of each operator the kind that both its sides want, and the kind that it makes.
KINDS_OF_OPERATORS = {"add": ("num", "num"), "less": ("num", "truth"), "and": ("truth", "truth")}
# Statements that have blocks of their own.
BRANCHING = ("if", "match", "repeat")


def nodes_of(tree):
    """Return the list of an E and all E in it, each ahead of its parts, from left to right."""
    found = []
    waiting = [tree]
    while waiting:
        node = waiting.pop()
        found.append(node)
        waiting.extend(parts_of(node)[::-1])
    return found


def kind_of(declarations, sight, tree):
    """Return the kind of an E, None if it has none."""
    kinds = []
    # Backwards, parts come ahead of the E that they are parts of, the first part last.
    for node in nodes_of(tree)[::-1]:
        parts = tuple([kinds.pop() for _ in parts_of(node)])
        kinds.append(_kind_made(declarations, sight, node, parts))
    return kinds[0]


def _kind_made(declarations, sight, node, parts):
    """Return the kind of an E whose parts have these kinds, None if it has none."""
    word = node[0]
    if word in ("num", "truth"):
        return word
    if word == "name":
        return _kind_of_name(declarations, sight, node[1])
    if word == "field":
        return dict(fields_of(declarations, parts[0])).get(node[2])
    if word in KINDS_OF_OPERATORS:
        side, made = KINDS_OF_OPERATORS[word]
        return made if parts == (side, side) else None
    kinds, made = taken_and_made(declarations, node)
    return made if parts == kinds else None


def _kind_of_name(declarations, sight, name):
    if name in sight:
        return sight[name]
    choice, part = arm_of(declarations, name) or (None, None)
    return choice if part is None else None


def taken_and_made(declarations, node):
    """Return the tuple (kinds of its parts, kind that it makes) of a call or record, (None, None) if it is none."""
    name = node[1]
    if node[0] == "record":
        fields = fields_of(declarations, name)
        return (tuple([kind for _, kind in fields]), name) if fields else (None, None)
    choice, part = arm_of(declarations, name) or (None, None)
    if part is not None:
        return ((part,), choice)
    return function_of(declarations, name) or (None, None)


def gives(block):
    """Tell whether a block gives."""
    waiting = [block]
    while waiting:
        inner = waiting.pop()
        last = inner[-1] if inner else ("nothing",)
        if last[0] == "match" or (last[0] == "if" and last[3] is not None):
            waiting.extend(blocks_of(last))
        elif last[0] != "give":
            return False
    return True


def names_spent(declarations, sight, tree):
    """Return the names of once kinds that stand in an E, in order, each as often as it stands there."""
    once = once_kinds(declarations)
    return tuple([node[1] for node in nodes_of(tree) if node[0] == "name" and sight.get(node[1]) in once])


def expression_of(statement):
    """Return the E of a statement."""
    return statement[PLACES_OF_E[statement[0]]]


def names_made(declarations, statement):
    """Return the tuples (name, kind) that can be seen behind a let or an open; None is a kind that is not told."""
    if statement[0] == "let":
        return [(statement[1], statement[2])]
    if statement[0] != "open":
        return []
    kinds = [kind for _, kind in fields_of(declarations, statement[1])]
    kinds.extend([None for _ in statement[2]])
    return list(zip(statement[2], kinds))


def names_held(declarations, statement, at):
    """Return the tuples (name, kind) that are made at the begin of an own block of a statement: those of a case."""
    if statement[0] != "match":
        return []
    arm, name, _ = statement[3][at]
    return [] if name is None else [(name, dict(arms_of(declarations, statement[1])).get(arm))]


def places_in(block):
    """Return the list of all places of a block, in order, those of blocks within it too: tuples (place, statement, at).

    They are "statement", where a statement begins, "begin" and "end" of its own block at an index, and "behind" all
    of its blocks, if it is one that has blocks.
    """
    found = []
    waiting = _begins_of(block)[::-1]
    while waiting:
        found.append(waiting.pop())
        place, statement, _ = found[-1]
        if place == "statement" and statement[0] in BRANCHING:
            waiting.extend(_places_of_blocks(statement)[::-1])
    return found


def _begins_of(block):
    return [("statement", statement, 0) for statement in block]


def _places_of_blocks(statement):
    found = []
    for at, inner in enumerate(blocks_of(statement)):
        found.extend([("begin", statement, at), *_begins_of(inner), ("end", statement, at)])
    return [*found, ("behind", statement, 0)]


class Way:
    """What is spent at a place of a block, and what was spent ahead of the blocks around it."""

    def __init__(self, declarations, sight, spent):
        self.declarations = declarations
        self.sight = dict(sight)
        self.spent = {name: True for name in spent}
        # The names that were made within each block that is open, the innermost last.
        self.made = [[]]
        # Of each statement whose blocks are gone through: what is spent behind its E, and behind those of its
        # blocks that do not give.
        self.behind_e = []
        self.behind_blocks = []
        # Of each repeat whose block is open the number of blocks around it.
        self.repeats = []

    def spend(self, tree):
        """Spend all names of an E; tell whether each one could be spent."""
        for name in names_spent(self.declarations, self.sight, tree):
            if name in self.spent or not self.is_within_repeat(name):
                return False
            self.spent[name] = True
        return True

    def is_within_repeat(self, name):
        """Tell whether no repeat is open, or the name was made within the block of the innermost one."""
        return not self.repeats or any([name in names for names in self.made[self.repeats[-1]:]])

    def make(self, names):
        """Make names that can be seen in the innermost block from here on."""
        for name, kind in names:
            self.sight[name] = kind
            self.made[-1].append(name)

    def begin(self, statement, at):
        """Begin an own block of a statement, with what is spent behind the E of the statement."""
        self.spent = dict(self.behind_e[-1])
        if statement[0] == "repeat":
            self.repeats.append(len(self.made))
        self.made.append([])
        self.make(names_held(self.declarations, statement, at))

    def end(self, statement, at):
        """End an own block of a statement."""
        for name in self.made.pop():
            del self.sight[name]
            self.spent.pop(name, None)
        if statement[0] == "repeat":
            self.repeats.pop()
        elif not gives(blocks_of(statement)[at]):
            self.behind_blocks[-1].append(self.spent)

    def go_behind(self):
        """Go behind the innermost statement and all its blocks: what some block that does not give has spent is spent.

        What is spent behind the E is spent behind each block, too; so an if without other needs nothing of its own.
        """
        ways = self.behind_blocks.pop()
        ahead = self.behind_e.pop()
        self.spent = {name: True for way in ways or [ahead] for name in way}


def spent_behind(declarations, sight, spent, block):
    """Return the names that are spent behind a block, None if one is spent that cannot be."""
    way = Way(declarations, sight, spent)
    for place, statement, at in places_in(block):
        if place == "begin":
            way.begin(statement, at)
        elif place == "end":
            way.end(statement, at)
        elif place == "behind":
            way.go_behind()
        elif not way.spend(expression_of(statement)):
            return None
        elif statement[0] in BRANCHING:
            way.behind_e.append(way.spent)
            way.behind_blocks.append([])
        else:
            way.make(names_made(declarations, statement))
    return tuple(sorted([name for name in way.spent if name not in way.made[0]]))
