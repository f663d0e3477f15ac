"""Shapes and plans written as E and blocks, with names."""

from endsahead.library import arms_of, fields_of, is_once
from endsahead.making import shapes_in, shapes_within
from endsahead.stocks import stock_of
from endsahead.words import fresh_name


def names_stock(declarations, names):
    """Return the stock of names."""
    return stock_of(declarations, [kind for _, kind in names])


def written(declarations, shape, names):
    """Return the tuple (E that a shape is with names, names that are left)."""
    left = list(names)
    shapes = shapes_in(shape)
    used = [_take_name(declarations, left, inner[1]) for inner in shapes if inner[0] == "take"]
    made = []
    # Backwards, parts come ahead of the shape that they are parts of, the first part last.
    for inner in shapes[::-1]:
        if inner[0] == "take":
            made.append(("name", used.pop()))
        else:
            parts = tuple([made.pop() for _ in shapes_within(inner)])
            made.append(_whole_of(inner, parts))
    return made[0], tuple(left)


def _take_name(declarations, names, kind):
    """Return the last name of a kind; if the kind is once, it goes from the list."""
    at = max([index for index, pair in enumerate(names) if pair[1] == kind])
    name = names[at][0]
    if is_once(declarations, kind):
        del names[at]
    return name


def _whole_of(shape, parts):
    """Return the E that a shape is, its parts being these E."""
    word = shape[0]
    if word == "num":
        return ("num", 0)
    if word == "truth":
        return ("truth", True)
    if word == "field":
        return ("field", parts[0], shape[2])
    if word == "arm":
        return ("call", shape[1], parts) if parts else ("name", shape[1])
    return (word, shape[1], parts)


def new_names(seen, many):
    """Return the tuple of the first so many new names that are none of those seen."""
    found = []
    for _ in range(many):
        found.append(fresh_name([*seen, *found]))
    return tuple(found)


def written_plan(declarations, plan, names, seen):
    """Return the block that a plan is with names, seen being all names that can be seen there."""
    made = []
    waiting = [(plan, tuple(names), tuple(seen))]
    while waiting:
        step, held, known = waiting.pop()
        tree, left = written(declarations, step[1] if step[0] == "give" else step[2], held)
        news = _news_behind(declarations, step, known)
        made.append((step, tree, news))
        ways = list(zip(_plans_behind(step), news))
        waiting.extend([(inner, (*left, *new), (*known, *_names_in(new))) for inner, new in ways[::-1]])
    blocks = []
    # Backwards, the blocks that stand behind a step come ahead of it, the first one last.
    for step, tree, news in made[::-1]:
        behind = [blocks.pop() for _ in news]
        blocks.append(_block_of(declarations, step, tree, news, behind))
    return blocks[0]


def _names_in(pairs):
    return tuple([name for name, _ in pairs])


def _plans_behind(step):
    if step[0] == "give":
        return ()
    return step[3] if step[0] == "match" else (step[3],)


def _news_behind(declarations, step, seen):
    """Return the list of the names, as tuples of tuples (name, kind), that a step makes on each way behind it."""
    if step[0] == "give":
        return []
    if step[0] == "let":
        ways = [[step[1]]]
    elif step[0] == "open":
        ways = [[kind for _, kind in fields_of(declarations, step[1])]]
    else:
        ways = [[] if part is None else [part] for _, part in arms_of(declarations, step[1])]
    return [tuple(zip(new_names(seen, len(kinds)), kinds)) for kinds in ways]


def _block_of(declarations, step, tree, news, behind):
    """Return the block that a step of a plan is, and what stands behind it."""
    word = step[0]
    if word == "give":
        return (("give", tree),)
    if word == "let":
        return (("let", news[0][0][0], step[1], tree), *behind[0])
    if word == "open":
        return (("open", step[1], _names_in(news[0]), tree), *behind[0])
    arms = [arm for arm, _ in arms_of(declarations, step[1])]
    cases = [(arm, new[0][0] if new else None, block) for arm, new, block in zip(arms, news, behind)]
    return (("match", step[1], tree, tuple(cases)),)
