"""Words and rows of words: what they are, and how texts show them."""

from endsahead.errors import NoWord, Wrong

KEYWORDS = (
    "plain", "once", "record", "choice", "given", "def", "let", "open", "if", "else",
    "match", "repeat", "give", "true", "false", "num", "truth", "and",
)
SIGNS = ("{", "}", "(", ")", ",", ":", ";", "=", "+", "<", ".")
LETTERS = "abcdefghijklmnopqrstuvwxyz"
CAPITALS = "ABCDEFGHIJKLMNOPQRSTUVWXYZ"
DIGITS = "0123456789"
BLANKS = (" ", "\n")
LONGEST_NAME = 20
LONGEST_NUMBER = 9


def sort_of_word(thing):
    """Return "keyword", "name", "number" or "sign", None of what is no word."""
    if not isinstance(thing, str):
        return None
    if thing in KEYWORDS:
        return "keyword"
    if thing in SIGNS:
        return "sign"
    if _shows_number(thing):
        return "number"
    if _looks_like_name(thing):
        return "name"
    return None


def _shows_number(text):
    if not 1 <= len(text) <= LONGEST_NUMBER or (text[0] == "0" and len(text) > 1):
        return False
    return all([letter in DIGITS for letter in text])


def _looks_like_name(text):
    if not 1 <= len(text) <= LONGEST_NAME or text[0] not in LETTERS:
        return False
    return all([letter in LETTERS or letter in DIGITS for letter in text])


def is_row(thing):
    """Tell whether any value is a tuple of words."""
    return isinstance(thing, tuple) and all([sort_of_word(word) is not None for word in thing])


def cut(text):
    """Return the row that a text shows."""
    if not isinstance(text, str):
        raise Wrong(0)
    words = []
    at = 0
    while at < len(text):
        end = _end_of_word(text, at)
        word = text[at:end]
        if word not in BLANKS:
            if sort_of_word(word) is None:
                raise NoWord(at)
            words.append(word)
        at = end
    return tuple(words)


def _end_of_word(text, at):
    """Return the place behind the letters and digits, or the one other sign, that begin at a place."""
    end = at
    while end < len(text) and _is_letter_or_digit(text[end]):
        end += 1
    return max(end, at + 1)


def _is_letter_or_digit(sign):
    return sign in LETTERS or sign in CAPITALS or sign in DIGITS


def show(row):
    """Return the text of a row, with one blank between its words."""
    return " ".join(row)


def number_of(word):
    """Return the integer that a number shows."""
    return int(word)


def number_word(integer):
    """Return the number that shows an integer from 0 to 999999999."""
    return str(integer)


def fresh_name(names):
    """Return the first of a to z, a1 to z1, a2 and so on that is none of the names."""
    taken = set(names)
    rounds = 0
    digits = ""
    while True:
        for letter in LETTERS:
            name = letter + digits
            if sort_of_word(name) == "name" and name not in taken:
                return name
        rounds += 1
        digits = str(rounds)
