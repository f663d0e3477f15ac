"""Papers that no right program begins with a row, and a judge that reads them."""

from endsahead.blocks import is_closed_for
from endsahead.demands import demands_with, is_met_by
from endsahead.ends import is_met_there, kind_to_give
from endsahead.forms import is_integer
from endsahead.stands import stand_at
from endsahead.tables import Tables


def none_paper(row):
    """Return a paper that nothing ends a row that can be read, None if something does."""
    return none_paper_with(row, Tables())


def none_paper_with(row, tables):
    """Return a paper that nothing ends a row that can be read, None if something does."""
    stand = stand_at(row)
    # The block of a function is open from its kind on; ahead of it nothing is demanded, and no tables are needed.
    if not stand.blocks:
        return None
    ex = tables.least(stand.declarations)
    for place, demand in enumerate(demands_with(stand, ex)):
        if not is_met_there(stand, demand, tables):
            lot = tables.least_of_blocks(stand.declarations, kind_to_give(stand))
            return (place, {kind: ex[kind] for kind in sorted(ex)}, lot)
    return None


def is_none_paper(row, thing):
    """Tell whether any value is a paper that nothing ends a row that can be read."""
    stand = stand_at(row)
    if not stand.blocks or not isinstance(thing, tuple) or len(thing) != 3:
        return False
    place, ex, lot = thing
    if not is_integer(place) or not is_closed_for(stand.declarations, kind_to_give(stand), ex, lot):
        return False
    found = demands_with(stand, ex)
    return 0 <= place < len(found) and not is_met_by(lot, found[place])
