"""Keys in valid tables: which slots they pass, and which of them a look-up does not find."""

from probetables.checks import MARK
from probetables.errors import NotClean, NotRight, NotThere


def keys_in(table):
    """The ascending list of the keys in a table."""
    return sorted([item for item in table if item is not None and item != MARK])


def place_of(book, table, key):
    """The place, from 0, of the slot of a key in its tries."""
    return book[key].index(table.index(key))


def passed_slots(book, table, key):
    """The slots that a key in a table passes, in the order of its tries."""
    return book[key][:place_of(book, table, key)]


def keys_passing(book, table, slot):
    """The ascending list of the keys that pass a slot."""
    return [key for key in keys_in(table) if slot in passed_slots(book, table, key)]


def slots_looked_at(book, table, key):
    """The slots that a look-up goes through, the last one among them."""
    tries = book[key]
    for place, slot in enumerate(tries):
        if table[slot] is None or table[slot] == key:
            return tries[:place + 1]
    return tries


def slot_found(book, table, key):
    """The slot at which a look-up finds a key, None if it does not."""
    last = slots_looked_at(book, table, key)[-1]
    return last if table[last] == key else None


def first_lost(book, table):
    """The least key in a table that is not found, None if there is none."""
    lost = [key for key in keys_in(table) if slot_found(book, table, key) is None]
    return min(lost, default=None)


def replaced(table, slot, item):
    """The table with another item in a slot."""
    return tuple([item if at == slot else stood for at, stood in enumerate(table)])


def moved(table, slot, hole):
    """The table with the key of a slot moved to a hole, and the slot empty."""
    return replaced(replaced(table, hole, table[slot]), slot, None)


def require_there(table, key):
    """Raise NotThere for a key that does not stand in a table."""
    if key not in table:
        raise NotThere("the key does not stand in the table")


def require_right(book, table):
    """Raise NotRight for a table in which a key is not found."""
    if first_lost(book, table) is not None:
        raise NotRight("a key in the table is not found")


def require_clean(table):
    """Raise NotClean for a table with a mark."""
    if MARK in table:
        raise NotClean("the table has a mark")
