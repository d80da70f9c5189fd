"""Look-ups in tables, right tables, and marks that can go."""

from probetables.checks import MARK, check_key, check_slot, check_table
from probetables.places import first_lost, keys_in, keys_passing, place_of, slot_found, slots_looked_at


def look_up(book, table, key):
    """The slot at which a key is found, None if it is not."""
    check_table(book, table)
    check_key(book, key)
    return slot_found(book, table, key)


def looked_at(book, table, key):
    """The number of slots that a look-up of a key looks at."""
    check_table(book, table)
    check_key(book, key)
    return len(slots_looked_at(book, table, key))


def is_right(book, table):
    """Whether each key in a table is found."""
    check_table(book, table)
    return first_lost(book, table) is None


def lost_key(book, table):
    """The least key in a table that is not found, None if there is none."""
    check_table(book, table)
    return first_lost(book, table)


def passing(book, table, slot):
    """The ascending tuple of the keys that pass a slot."""
    check_table(book, table)
    check_slot(len(table), slot)
    return tuple(keys_passing(book, table, slot))


def places_sum(book, table):
    """The sum, over all keys in a table, of the places of their slots in their tries."""
    check_table(book, table)
    return sum([place_of(book, table, key) for key in keys_in(table)])


def clearable(book, table):
    """The ascending tuple of the slots with a mark that no key passes."""
    check_table(book, table)
    return tuple([
        slot for slot, item in enumerate(table)
        if item == MARK and not keys_passing(book, table, slot)
    ])


def cleared(book, table):
    """The table with its clearable slots empty."""
    free = clearable(book, table)
    return tuple([None if slot in free else item for slot, item in enumerate(table)])
