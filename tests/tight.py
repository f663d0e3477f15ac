"""Rows by chance in which there is just enough of everything, and what holds of them."""

import random

from endsahead.blocks import block_stocks, plan_for
from endsahead.errors import TooMany
from endsahead.library import kinds_in
from endsahead.shower import row_of
from endsahead.stands import can_be_read, function_at
from endsahead.writing import written_plan
from authors import chance_library, rich_library

WORDS = "{ } ( ) , : ; = + < . let open if else match repeat give true num truth and 0".split()


def small_library(seed):
    """Return a library with declared kinds, in each third seed one in which things come of nothing."""
    chance = random.Random(seed)
    if seed % 3 == 0:
        library = chance_library(seed, 5, 5)
        return library if kinds_in(library) else (*library, ("once", "k"))
    return rich_library(seed, chance.randint(3, 6), chance.randint(1, 6))


def tight_program(seed):
    """Return a right program with one function the parameters of which are just one of the least stocks, or None."""
    chance = random.Random(seed)
    library = small_library(seed)
    kind = chance.choice(kinds_in(library))
    try:
        stock = chance.choice(block_stocks(library, kind))
    except TooMany:
        return None
    kinds = [name for name, count in stock for _ in range(count)]
    chance.shuffle(kinds)
    names = tuple((f"own{at}", told) for at, told in enumerate(kinds))
    seen = [*row_of(library), "fun", *[name for name, _ in names]]
    block = written_plan(library, plan_for(library, kind, stock), names, seen)
    return (*library, ("def", "fun", names, kind, block))


def head_by_chance(seed):
    """Return the row of a library and the begin of a function, up to its `{`, with no or a few parameters."""
    chance = random.Random(seed)
    library = small_library(seed)
    kinds = kinds_in(library)
    names = ",".join(f" own{at} : {chance.choice(kinds)} " for at in range(chance.randint(0, 3))).replace(",", " , ")
    return (*row_of(library), *f"def fun ( {names} ) : {chance.choice(kinds)} {{".split())


def walk(seed, row, many, fits=can_be_read):
    """Return all rows that come by writing words by chance behind a row, as long as they fit."""
    chance = random.Random(seed)
    found = []
    known = [word for word in row if word[0].isalpha()]
    for at in range(many):
        pool = [*WORDS, *known, *[word for word in row if word.startswith("made")] * 2, f"made{at}"]
        chance.shuffle(pool)
        # Brackets and sums would go on for ever.
        pool.sort(key=lambda word: word in ("(", "+") and chance.random() < 0.7)
        word = next((one for one in pool if fits((*row, one))), None)
        if word is None:
            break
        row = (*row, word)
        if function_at(row) is None:
            break
        found.append(row)
    return found
