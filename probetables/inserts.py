"""Inserting by three rules, and the orders of insertions that a table can come of."""

from probetables.checks import MARK, check_key, check_rule, check_table
from probetables.errors import AlreadyThere, Full
from probetables.places import first_lost, keys_in, passed_slots, replaced, require_clean, require_right

INSERT_RULES = ("poor", "stay", "swap")


def insert_rules():
    """The ascending tuple of the names of the rules of inserting."""
    return INSERT_RULES


def insert(book, table, key, rule):
    """The table with a key put in by a rule of inserting."""
    check_table(book, table)
    check_key(book, key)
    check_rule(rule, INSERT_RULES)
    if rule != "stay":
        require_right(book, table)
        require_clean(table)
    if key in table:
        raise AlreadyThere("the key stands in the table")
    if len(keys_in(table)) == len(table):
        raise Full("all slots have keys")
    if rule == "stay":
        return put_staying(book, table, key)
    return put_moving(book, table, key, rule)


def put_staying(book, table, key):
    """The table with a key in the first slot of its tries that has no key."""
    free = [slot for slot in book[key] if table[slot] is None or table[slot] == MARK]
    return replaced(table, free[0], key)


def put_moving(book, table, key, rule):
    """The table with a key put in by "swap" or "poor", which move the keys that stand there."""
    slots = list(table)
    place = 0
    # No key runs out of tries: it would have passed all slots, and one of them is empty.
    while slots[book[key][place]] is not None:
        slot = book[key][place]
        stood = slots[slot]
        stood_place = book[stood].index(slot)
        if rule == "swap" or place > stood_place:
            slots[slot] = key
            key, place = stood, stood_place
        place += 1
    slots[book[key][place]] = key
    return tuple(slots)


def count_orders(book, table):
    """The number of orders of its keys in which "stay" makes a table of an empty one."""
    check_table(book, table)
    require_clean(table)
    keys = keys_in(table)
    # Orders that put in the same keys leave the same slots, so they are counted together.
    counts = {(): 1}
    for _ in keys:
        longer = {}
        for put, count in counts.items():
            for key in keys_next(book, table, put):
                grown = tuple(sorted([*put, key]))
                longer[grown] = longer.get(grown, 0) + count
        counts = longer
    return counts.get(tuple(keys), 0)


def least_order(book, table):
    """The least order of its keys in which "stay" makes a table, None if there is none."""
    check_table(book, table)
    require_clean(table)
    order = longest_order(book, table)
    return tuple(order) if len(order) == len(keys_in(table)) else None


def ring(book, table):
    """Keys each in a slot that the next one passes, round; None if there are none such."""
    check_table(book, table)
    require_clean(table)
    if first_lost(book, table) is not None:
        return None
    put = longest_order(book, table)
    stuck = [key for key in keys_in(table) if key not in put]
    return ring_among(book, table, stuck) if stuck else None


def keys_next(book, table, put):
    """The keys, not yet put in, that "stay" brings to their slots when some are put in."""
    return [key for key in keys_in(table) if key not in put and reaches_slot(book, table, put, key)]


def reaches_slot(book, table, put, key):
    """Whether "stay" brings a key to its slot when some keys are put in."""
    # An empty slot that the key passes holds none of them, so such a key never gets to its own.
    return all(table[slot] in put for slot in passed_slots(book, table, key))


def longest_order(book, table):
    """As many keys as can be put in one after another, each time the least one."""
    order = []
    coming = keys_next(book, table, order)
    while coming:
        order.append(coming[0])
        coming = keys_next(book, table, order)
    return order


def ring_among(book, table, stuck):
    """A ring of keys each of which passes a slot of another one of them."""
    trail = []
    key = stuck[0]
    while key not in trail:
        trail.append(key)
        passed = [table[slot] for slot in passed_slots(book, table, key) if table[slot] in stuck]
        key = passed[0]
    # The trail goes from a key to one whose slot it passes: a ring goes the other way.
    return tuple(reversed(trail[trail.index(key):]))
