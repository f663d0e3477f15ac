"""Which words lead on from a row to a right program, and the first one that does not."""

from endsahead.ends import begins, goes_on, is_beginning, takes
from endsahead.forms import is_name
from endsahead.standing import Stand
from endsahead.stands import first_unread
from endsahead.tables import Tables
from endsahead.words import KEYWORDS, SIGNS, fresh_name

# All numbers are alike.
SOME_NUMBER = "0"


def first_dead(row):
    """Return the index of the first word with which a row is no beginning, None if there is none."""
    return first_dead_with(row, Tables())


def first_dead_with(row, tables):
    """Return the index of the first word with which a row is no beginning, None if there is none."""
    unread = first_unread(row)
    dead = len(row) if unread is None else unread
    if begins(row[:dead], tables):
        return unread
    # What begins with a row that is no beginning is none either, so the first one is found by halves. All that can
    # be read up to the last function is a beginning.
    alive = _last_function(row[:dead])
    while dead - alive > 1:
        middle = (alive + dead) // 2
        if begins(row[:middle], tables):
            alive = middle
        else:
            dead = middle
    return dead - 1


def _last_function(row):
    """Return the index of the last word `def` of a row that has one."""
    return len(row) - 1 - row[::-1].index("def")


def is_offered(row, word):
    """Tell whether a beginning with a word behind it is a beginning."""
    return is_beginning((*row, word))


def offers(row):
    """Return the tuple (words, whether a new name is, whether a number is) of what is offered behind a beginning."""
    return offers_with(row, Tables())


def offers_with(row, tables):
    """Return the tuple (words, whether a new name is, whether a number is) of what is offered behind a beginning."""
    return fitting(row, (), row, tables)


def fitting(ahead, behind, known, tables):
    """Return the tuple (words, whether a new name does, whether a number does) of what fits between words.

    What fits makes a beginning with the words ahead of it and those behind it; known is a row with all its names.
    """
    stand = Stand()
    if not takes(stand, ahead):
        return ((), False, False)
    names = sorted({word for word in known if is_name(word)})
    words = [word for word in sorted([*KEYWORDS, *SIGNS, *names]) if _fits(stand, word, behind, tables)]
    new = _fits(stand, fresh_name(known), behind, tables)
    return (tuple(words), new, _fits(stand, SOME_NUMBER, behind, tables))


def _fits(stand, word, behind, tables):
    return goes_on(stand.twin(), (word, *behind), tables)
