"""Rows that are kept under edits, and what is told of them."""

from endsahead.ends import begins, ending_with
from endsahead.errors import NoEnding, NoTree, Nothing, Wrong
from endsahead.forms import is_integer
from endsahead.lacks import lacks_with
from endsahead.nopapers import none_paper_with
from endsahead.offers import first_dead_with, fitting, offers_with
from endsahead.reader import read_program
from endsahead.right import is_right
from endsahead.stands import first_unread
from endsahead.tables import Tables
from endsahead.words import is_row, sort_of_word


class Kept:
    """A row, and the rows that it was."""

    def __init__(self, row):
        if not is_row(row):
            raise Wrong(0)
        self.words = row
        # The rows to which undo leads back, the next one last.
        self.past = []
        self.tables = Tables()

    def __eq__(self, other):
        return isinstance(other, Kept) and self.words == other.words

    def row(self):
        """Return the row as it is now."""
        return self.words

    def put(self, index, words):
        """Put words at an index."""
        if not _is_number_up_to(index, len(self.words)):
            raise Wrong(0)
        if not is_row(words):
            raise Wrong(1)
        self._change((*self.words[:index], *words, *self.words[index:]))

    def take(self, index, many):
        """Take so many words from an index on."""
        if not _is_number_up_to(index, len(self.words)):
            raise Wrong(0)
        if not _is_number_up_to(many, len(self.words) - index):
            raise Wrong(1)
        self._change((*self.words[:index], *self.words[index + many:]))

    def write(self, word):
        """Put a word at the end, if the row with it is a beginning; tell whether it is."""
        if sort_of_word(word) is None:
            raise Wrong(0)
        longer = (*self.words, word)
        fits = begins(longer, self.tables)
        if fits:
            self._change(longer)
        return fits

    def finish(self):
        """Put words at the end with which the row is that of a right program, and return them."""
        words = ending_with(self.words, self.tables)
        self._change((*self.words, *words))
        return words

    def undo(self):
        """Lead back to the row ahead of the last change that was not led back yet."""
        if not self.past:
            raise Nothing()
        self.words = self.past.pop()

    def _change(self, row):
        if row != self.words:
            self.past.append(self.words)
            self.words = row

    def dead(self):
        """Return the index of the first word with which the row is no beginning, None if there is none."""
        return first_dead_with(self.words, self.tables)

    def program(self):
        """Return the right program whose row it is, None if it is that of none."""
        try:
            program = read_program(self.words)
        except NoTree:
            return None
        return program if is_right(program) else None

    def lacks(self):
        """Return the least stocks by which the row has to be widened to be a beginning."""
        self._ask_whether_read()
        return lacks_with(self.words, self.tables)

    def paper(self):
        """Return a paper that nothing ends the row, None if something does."""
        self._ask_whether_read()
        return none_paper_with(self.words, self.tables)

    def _ask_whether_read(self):
        unread = first_unread(self.words)
        if unread is not None:
            raise NoTree(unread)

    def offers(self, index):
        """Return what is offered behind the words ahead of an index."""
        if not _is_number_up_to(index, len(self.words)):
            raise Wrong(0)
        if not begins(self.words[:index], self.tables):
            raise NoEnding()
        return offers_with(self.words[:index], self.tables)

    def may_stand(self, index, word):
        """Tell whether the row with a word in the place of that at an index is a beginning."""
        if not _is_number_up_to(index, len(self.words) - 1):
            raise Wrong(0)
        if sort_of_word(word) is None:
            raise Wrong(1)
        return begins((*self.words[:index], word, *self.words[index + 1:]), self.tables)

    def instead(self, index):
        """Return the tuple (words, whether a new name may, whether a number may) of what may stand at an index."""
        if not _is_number_up_to(index, len(self.words) - 1):
            raise Wrong(0)
        return fitting(self.words[:index], self.words[index + 1:], self.words, self.tables)

    def twin(self):
        """Return another one with the same row, and the same to undo."""
        made = Kept(self.words)
        made.past = list(self.past)
        made.tables = self.tables.twin()
        return made


def _is_number_up_to(thing, most):
    """Tell whether any value is an integer from 0 to most."""
    return is_integer(thing) and 0 <= thing <= most
