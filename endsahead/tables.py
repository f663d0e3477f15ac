"""The tables and lots behind declarations, made as soon as they are asked for, and kept."""

from endsahead.blocks import lots_of, plan_with
from endsahead.making import FREE_KINDS, tables_of

MOST_KEPT = 40


class Tables:
    """What is known of the least stocks behind declarations."""

    def __init__(self):
        self.known_rounds = {}
        self.known_lots = {}

    def rounds(self, declarations):
        """Return the list of the tables of all rounds, the last one being that of the least stocks."""
        if declarations not in self.known_rounds:
            if len(self.known_rounds) >= MOST_KEPT:
                self.known_rounds = {}
            self.known_rounds[declarations] = tables_of(declarations)
        return self.known_rounds[declarations]

    def least(self, declarations):
        """Return the table of the least stocks from which an E of each kind can be made."""
        return self.rounds(declarations)[-1]

    def rounds_of_blocks(self, declarations, kind):
        """Return the list of the lots of all rounds, the last one being that of the least stocks."""
        key = (declarations, kind)
        if key not in self.known_lots:
            if len(self.known_lots) >= MOST_KEPT:
                self.known_lots = {}
            self.known_lots[key] = lots_of(declarations, self.least(declarations), kind)
        return self.known_lots[key]

    def least_of_blocks(self, declarations, kind):
        """Return the lot of the least stocks from which a block can be made that gives a kind."""
        # What is free can be given anywhere, so that no table is needed.
        return ((),) if kind in FREE_KINDS else self.rounds_of_blocks(declarations, kind)[-1]

    def plan(self, declarations, kind, stock):
        """Return a plan of a kind from a stock, None if there is none."""
        if kind in FREE_KINDS:
            return ("give", (kind,))
        lots = self.rounds_of_blocks(declarations, kind)
        return plan_with(declarations, self.rounds(declarations), lots, kind, stock)

    def twin(self):
        """Return another one that knows the same."""
        made = Tables()
        made.known_rounds = {key: self.known_rounds[key] for key in self.known_rounds}
        made.known_lots = {key: self.known_lots[key] for key in self.known_lots}
        return made
