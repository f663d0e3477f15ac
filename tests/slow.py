"""Stocks, tables and lots as the document tells them, slowly, and by means that share nothing with the program."""

from itertools import product


def once_of(declarations):
    """Return the dict from each declared kind to whether it is once."""
    once = {}
    for declared in declarations:
        if declared[0] in ("plain", "once"):
            once[declared[1]] = declared[0] == "once"
        elif declared[0] in ("record", "choice"):
            once[declared[1]] = any(once.get(part, False) for _, part in declared[2])
    return once


def stock(counts):
    return tuple(sorted((kind, count) for kind, count in counts.items() if count > 0))


def above(one, other):
    return all(dict(one).get(kind, 0) >= count for kind, count in other)


def added(once, stocks):
    counts = {}
    for one in stocks:
        for kind, count in one:
            counts[kind] = counts.get(kind, 0) + count if once[kind] else max(counts.get(kind, 0), count)
    return stock(counts)


def joined(stocks):
    return stock({kind: max(dict(one).get(kind, 0) for one in stocks) for one in stocks for kind, _ in one})


def without(one, other):
    return stock({kind: count - dict(other).get(kind, 0) for kind, count in one})


def named(once, kinds):
    return added(once, [((kind, 1),) for kind in kinds if kind in once])


def least(stocks):
    kept = set(stocks)
    return tuple(sorted(one for one in kept if not any(above(one, other) for other in kept if other != one)))


def sums(once, lots):
    return least(added(once, chosen) for chosen in product(*lots))


def rules(declarations):
    """Return the tuples (kind, kinds) of all rules, in no order."""
    found = []
    for declared in declarations:
        word, name = declared[:2]
        if word == "given":
            found.append((declared[3], declared[2]))
        elif word == "def":
            found.append((declared[3], tuple(kind for _, kind in declared[2])))
        elif word == "record":
            found.append((name, tuple(kind for _, kind in declared[2])))
            found.extend((kind, (name,)) for _, kind in declared[2])
        elif word == "choice":
            found.extend((name, () if part is None else (part,)) for _, part in declared[2])
    return found


def tables(declarations):
    """Return the list of the tables of all rounds, None as the last one if a lot has more than 60 members."""
    once = once_of(declarations)
    found = [{**{kind: (((kind, 1),),) for kind in once}, "num": ((),), "truth": ((),)}]
    while True:
        old = found[-1]
        new = dict(old)
        for kind in once:
            made = [one for what, kinds in rules(declarations) if what == kind for one in sums(once, [old[k] for k in kinds])]
            new[kind] = least([*old[kind], *made])
            if len(new[kind]) > 60:
                return [*found, None]
        if new == old:
            return found
        found.append(new)


def steps(declarations, ex, lot):
    """Return all stocks that come by one step backwards."""
    once = once_of(declarations)
    found = [added(once, [m, without(w, ((kind, 1),))]) for kind in once for m in ex[kind] for w in lot]
    for declared in declarations:
        if declared[0] == "record":
            fields = named(once, [kind for _, kind in declared[2]])
            found.extend(added(once, [m, without(w, fields)]) for m in ex[declared[1]] for w in lot)
        elif declared[0] == "choice":
            for chosen in product(lot, repeat=len(declared[2])):
                rest = joined([without(w, named(once, [part])) for w, (_, part) in zip(chosen, declared[2])])
                found.extend(added(once, [m, rest]) for m in ex[declared[1]])
    return found


def lots(declarations, ex, kind):
    """Return the list of the lots of all rounds, None as the last one if a lot has more than 60 members."""
    found = [ex[kind]]
    while True:
        new = least([*found[-1], *steps(declarations, ex, found[-1])])
        if len(new) > 60:
            return [*found, None]
        if new == found[-1]:
            return found
        found.append(new)
