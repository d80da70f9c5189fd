"""Deleting by seven rules, and which of them keep every look-up right."""

from probetables.books import check_family, tries_by_step
from probetables.checks import MARK, check_key, check_rule, check_table
from probetables.places import keys_in, keys_passing, moved, replaced, require_there
from probetables.ways import shortest_ways

DELETE_RULES = ("empty", "fill", "last", "mark", "once", "scan", "short")
RIGHT_RULES = ("fill", "mark", "short")

# Each but that of "scan" is of the linear family, and so of the two others, which hold it.
WRONG_CASES = {
    "empty": (((0, 1), (0, 1)), (0, 1), 0),
    "last": (((0, 1), (1, 0)), (0, 1), 0),
    "once": (((0, 1, 2), (0, 1, 2), (0, 1, 2)), (0, 1, 2), 0),
    "scan": (((0, 1, 2), (0, 2, 1)), (0, None, 1), 0),
}


def delete_rules():
    """The ascending tuple of the names of the rules of deleting."""
    return DELETE_RULES


def delete(book, table, key, rule):
    """The table without a key, by a rule of deleting."""
    check_table(book, table)
    check_key(book, key)
    check_rule(rule, DELETE_RULES)
    require_there(table, key)
    hole = table.index(key)
    if rule == "mark":
        return replaced(table, hole, MARK)
    if rule in ("scan", "fill"):
        return filled_up(book, table, hole, rule)
    if rule == "short":
        way, _ = shortest_ways(book, table, key)
    else:
        way = (hole, *givers(book, table, hole, rule)[:1])
    return moved_along(table, way)


def is_right_rule(rule, family):
    """Whether a rule of deleting leaves a right table of each right table of a family."""
    check_rule(rule, DELETE_RULES)
    check_family(family)
    return rule in RIGHT_RULES or (rule == "scan" and family == "linear")


def wrong_case(rule, family):
    """A book of a family, a right table and a key that a rule deletes wrongly; None for a right rule."""
    return None if is_right_rule(rule, family) else WRONG_CASES[rule]


def slots_behind(size, slot):
    """The slots behind a slot, in their order."""
    return tries_by_step(size, slot, 1)[1:]


def stretch_behind(table, hole):
    """The slots behind a hole, ahead of the first empty one; all of them if there is none."""
    slots = slots_behind(len(table), hole)
    empty = [place for place, slot in enumerate(slots) if table[slot] is None]
    return slots[:min(empty, default=len(slots))]


def givers(book, table, hole, rule):
    """The slots whose keys may be moved to the hole by a rule, the one it takes first ahead."""
    if rule == "empty":
        return []
    if rule == "last":
        keys = keys_in(table)
        return [slot for slot in reversed(stretch_behind(table, hole)) if table[slot] in keys]
    slots = stretch_behind(table, hole) if rule == "scan" else slots_behind(len(table), hole)
    passing = keys_passing(book, table, hole)
    return [slot for slot in slots if table[slot] in passing]


def filled_up(book, table, hole, rule):
    """The table left when a hole is filled as long as a rule finds a key that passes it."""
    left = replaced(table, hole, None)
    slots = givers(book, left, hole, rule)
    while slots:
        left = moved(left, slots[0], hole)
        hole = slots[0]
        slots = givers(book, left, hole, rule)
    return left


def moved_along(table, way):
    """The table left when the first slot of a way is emptied and each other one gives its key to the one before."""
    left = replaced(table, way[0], None)
    for place, slot in enumerate(way[1:]):
        left = moved(left, slot, way[place])
    return left
