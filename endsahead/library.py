"""What declarations, the first ones of a right program, declare."""

from endsahead.forms import is_integer

KIND_WORDS = ("plain", "once", "record", "choice")


def sort_of(declarations, name):
    """Return the word by which a name is declared, "arm" of an arm, None if it is not declared."""
    for declared in declarations:
        if declared[1] == name:
            return declared[0]
    return None if arm_of(declarations, name) is None else "arm"


def kinds_in(declarations):
    """Return the names of all declared kinds, ascending."""
    return tuple(sorted([declared[1] for declared in declarations if declared[0] in KIND_WORDS]))


def fields_of(declarations, name):
    """Return the tuples (field, kind) of a record."""
    return _members_of(declarations, "record", name)


def arms_of(declarations, name):
    """Return the tuples (arm, kind or None) of a choice."""
    return _members_of(declarations, "choice", name)


def _members_of(declarations, word, name):
    for declared in declarations:
        if declared[0] == word and declared[1] == name:
            return declared[2]
    return ()


def arm_of(declarations, name):
    """Return the tuple (choice, kind of its part or None) of an arm, None of what is no arm."""
    for declared in declarations:
        if declared[0] == "choice":
            for arm, part in declared[2]:
                if arm == name:
                    return (declared[1], part)
    return None


def choice_of(declarations, name):
    """Return the choice of an arm, None of what is no arm."""
    found = arm_of(declarations, name)
    return None if found is None else found[0]


def function_of(declarations, name):
    """Return the tuple (kinds that it takes, kind that it makes) of a given or def."""
    for declared in declarations:
        if declared[0] in ("given", "def") and declared[1] == name:
            return (_kinds_taken(declared), declared[3])
    return None


def _kinds_taken(declared):
    """Return the kinds that a given or def takes."""
    if declared[0] == "given":
        return declared[2]
    return tuple([kind for _, kind in declared[2]])


def makers(declarations):
    """Return the tuples (word, name, kinds, kind) of all that makes a kind out of others, in order."""
    found = []
    for declared in declarations:
        found.extend(_makers_in(declared))
    return tuple(found)


def _makers_in(declared):
    word, name = declared[0], declared[1]
    if word == "record":
        return [("record", name, tuple([kind for _, kind in declared[2]]), name)]
    if word == "choice":
        return [("arm", arm, () if part is None else (part,), name) for arm, part in declared[2]]
    if word in ("given", "def"):
        return [("call", name, _kinds_taken(declared), declared[3])]
    return []


def fields_with(declarations, kind):
    """Return the tuples (record, field) of all fields of a kind, in order."""
    found = []
    for declared in declarations:
        if declared[0] == "record":
            found.extend([(declared[1], field) for field, held in declared[2] if held == kind])
    return tuple(found)


def library_of(declarations):
    """Return the declarations with a given in the place of each def."""
    return tuple([_without_block(declared) for declared in declarations])


def _without_block(declared):
    if declared[0] != "def":
        return declared
    return ("given", declared[1], _kinds_taken(declared), declared[3])


def is_once(declarations, kind):
    """Tell whether a kind is one of which each value is to be used at most once."""
    return _once_or_not(declarations).get(kind, False)


def once_kinds(declarations):
    """Return the declared kinds that are once, ascending."""
    table = _once_or_not(declarations)
    return tuple(sorted([kind for kind in table if table[kind]]))


def plain_kinds(declarations):
    """Return the declared kinds that are not once, ascending."""
    table = _once_or_not(declarations)
    return tuple(sorted([kind for kind in table if not table[kind]]))


def _once_or_not(declarations):
    """Return the dict from each declared kind to whether it is once."""
    table = {}
    for declared in declarations:
        if declared[0] in ("plain", "once"):
            table[declared[1]] = declared[0] == "once"
        elif declared[0] in ("record", "choice"):
            # Parts are declared ahead of what they are parts of, so the table tells of them already.
            table[declared[1]] = any([table.get(part, False) for _, part in declared[2]])
    return table


def is_stock(declarations, thing):
    """Tell whether any value is a stock of the declared kinds."""
    table = _once_or_not(declarations)
    if not isinstance(thing, tuple) or not all([_is_count_of(table, member) for member in thing]):
        return False
    return all([one[0] < other[0] for one, other in zip(thing, thing[1:])])


def _is_count_of(table, member):
    """Tell whether any value is a tuple (kind, count) as a stock has them."""
    if not isinstance(member, tuple) or len(member) != 2:
        return False
    kind, count = member
    if not isinstance(kind, str) or kind not in table or not is_integer(count):
        return False
    return count == 1 or (count > 1 and table[kind])
