"""What several tests use: wrong values, all small books and tables, and the document's words as slow code."""

import unittest
from copy import deepcopy
from itertools import combinations, permutations, product

# Values of every listed kind; each test leaves out those that are valid in its place.
ANY_VALUES = (
    None, True, False, -1, -(10 ** 30), 10 ** 30, 9, "", "0", "1", "gone", "any", "stay", "Linear", (), (0,), (True,),
    ("gone",), ((0, 1), (1, 0)), [], [0], [None, None], [[0, 1]], {}, {0: 1}, {"any": [1]}, [(0, [None, {"x": ()}])],
)


class ErrorCase(unittest.TestCase):
    """Checks which error a call raises, and that the call leaves its arguments as they were."""

    def refused(self, error, function, *args):
        before = deepcopy(args)
        with self.assertRaises(error) as caught:
            function(*args)
        self.assertIs(type(caught.exception), error, args)
        self.assertEqual(repr(args), repr(before))
        return caught.exception

    def refused_at(self, error, index, function, *args):
        raised = self.refused(error, function, *args)
        self.assertEqual(repr(raised.index), repr(index), args)


def books(size, keys):
    return product(permutations(range(size)), repeat=keys)


def tables(size, keys, marks=True):
    """All tables of a size for so many keys."""
    for many in range(min(size, keys) + 1):
        for chosen in permutations(range(keys), many):
            for slots in combinations(range(size), many):
                for rest in product((None, "gone") if marks else (None,), repeat=size - many):
                    filled = dict(zip(slots, chosen))
                    others = iter(rest)
                    yield tuple(filled[slot] if slot in filled else next(others) for slot in range(size))


def standing(table):
    return [item for item in table if item not in (None, "gone")]


def naive_look_up(book, table, key):
    """(slot or None, number of slots looked at)"""
    looked = 0
    for slot in book[key]:
        looked += 1
        if table[slot] is None:
            return None, looked
        if table[slot] == key:
            return slot, looked
    return None, looked


def naive_passing(book, table, slot):
    found = []
    for key in range(len(book)):
        if key in standing(table) and book[key].index(slot) < book[key].index(table.index(key)):
            found.append(key)
    return tuple(found)


def naive_is_right(book, table):
    return all(naive_look_up(book, table, key)[0] is not None for key in standing(table))


def naive_stay(book, table, key):
    for slot in book[key]:
        if table[slot] in (None, "gone"):
            return table[:slot] + (key,) + table[slot + 1:]
    raise AssertionError("the table is full")


def naive_swap(book, table, key):
    def go_on(slots, moved, tries):
        stood, left = slots[tries[0]], dict(slots)
        left[tries[0]] = moved
        if stood is None:
            return left
        own = book[stood]
        return go_on(left, stood, own[own.index(tries[0]) + 1:])
    left = go_on(dict(enumerate(table)), key, book[key])
    return tuple(left[slot] for slot in range(len(table)))


def naive_poor(book, table, key):
    def go_on(slots, moved, place):
        slot = book[moved][place]
        stood = slots[slot]
        if stood is None:
            return {**slots, slot: moved}
        if book[stood].index(slot) < place:
            return go_on({**slots, slot: moved}, stood, book[stood].index(slot) + 1)
        return go_on(slots, moved, place + 1)
    left = go_on(dict(enumerate(table)), key, 0)
    return tuple(left[slot] for slot in range(len(table)))


NAIVE_RULES = {"poor": naive_poor, "stay": naive_stay, "swap": naive_swap}


def naive_orders(book, table):
    """All orders of its keys in which "stay" makes the table, ascending."""
    found = []
    for order in permutations(sorted(standing(table))):
        made = (None,) * len(table)
        for key in order:
            made = naive_stay(book, made, key)
        if made == table:
            found.append(order)
    return found


def naive_behind(size, slot):
    return [(slot + steps) % size for steps in range(1, size)]


def naive_ways(book, table, key, most=100):
    """All ways that delete the key, of no more than so many moves."""
    def go_on(left, way):
        passing = naive_passing(book, tuple(left), way[-1])
        if not passing:
            yield way
        for other in passing if len(way) <= most else ():
            slot = left.index(other)
            after = list(left)
            after[way[-1]], after[slot] = other, None
            yield from go_on(after, way + (slot,))
    hole = table.index(key)
    return list(go_on([None if slot == hole else item for slot, item in enumerate(table)], (hole,)))


def naive_short_ways(book, table, key):
    """All shortest ways that delete the key, ascending."""
    most, ways = 0, []
    while not ways:
        ways = sorted(naive_ways(book, table, key, most))
        most += 1
    return ways


def naive_giver(book, slots, hole, rule):
    """The slot whose key goes to the hole, None if there is none such."""
    given = None
    for slot in naive_behind(len(slots), hole):
        if slots[slot] is None and rule in ("last", "scan"):
            break
        if rule == "last" and slots[slot] in range(8):
            given = slot
        if rule != "last" and slots[slot] in naive_passing(book, tuple(slots), hole):
            return slot
    return given


def naive_delete(book, table, key, rule):
    hole = table.index(key)
    slots = list(table)
    slots[hole] = "gone" if rule == "mark" else None
    if rule == "short":
        for slot in naive_short_ways(book, table, key)[0][1:]:
            slots[hole], slots[slot], hole = slots[slot], None, slot
    if rule in ("once", "last", "scan", "fill"):
        slot = naive_giver(book, slots, hole, rule)
        while slot is not None:
            slots[hole], slots[slot], hole = slots[slot], None, slot
            slot = naive_giver(book, slots, hole, rule) if rule in ("scan", "fill") else None
    return tuple(slots)
