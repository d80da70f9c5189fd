import unittest
from itertools import combinations, permutations, product

from helpers import (
    ANY_VALUES, ErrorCase, books, naive_is_right, naive_short_ways, naive_ways, standing, tables,
)
from probetables.books import families, linear, stepped
from probetables.deletes import delete
from probetables.errors import (
    BadBook, BadFamily, BadKey, BadNumber, BadSize, BadSlots, BadTable, NotThere,
)
from probetables.ways import count_short_ways, fewest_moves, short_way, shows_way, suspects

BOOK = ((0, 1, 2, 3, 4), (0, 1, 2, 3, 4), (1, 2, 3, 4, 0), (3, 4, 0, 1, 2))
SHORT = (fewest_moves, short_way, count_short_ways)
FULL = tuple(range(8))
# Deleting key 0 of the full table needs eight moves, one slot twice; a way of forty moves does it, too.
TANGLED = (
    (3, 4, 6, 1, 2, 7, 5, 0), (5, 2, 7, 6, 3, 0, 4, 1), (7, 6, 3, 0, 4, 1, 5, 2), (1, 2, 0, 4, 5, 7, 6, 3),
    (6, 5, 2, 1, 7, 3, 0, 4), (6, 4, 1, 3, 7, 2, 0, 5), (4, 5, 2, 7, 3, 0, 1, 6), (2, 6, 5, 3, 0, 4, 1, 7),
)
LONG_WAY = (
    0, 1, 6, 3, 0, 4, 7, 6, 3, 0, 5, 2, 0, 1, 5, 7, 3, 0, 4, 1, 7, 2, 3, 0, 4, 5, 3, 7, 6, 5, 2, 1, 3, 0, 4, 5, 2, 6,
    5, 7, 3)


class Example(ErrorCase):
    def test_example_of_the_interface(self):
        table = (0, 1, 2, 3, None)
        self.assertEqual(
            [short_way(BOOK, table, 0), fewest_moves(BOOK, table, 0), count_short_ways(BOOK, table, 0),
             shows_way(BOOK, table, 0, (0, 1)), shows_way(BOOK, table, 3, (3,))],
            [(0, 1, 2), 2, 1, False, True])
        self.assertEqual(
            [suspects(5, family, (0, 1, 3, 4), 3) for family in ("any", "linear", "stepped")],
            [(0, 1, 4), (0, 1, 4), (0, 1, 4)])
        self.assertEqual(
            [suspects(5, family, (0, 1, 3), 1) for family in ("any", "linear", "stepped")], [(0, 3), (), (0, 3)])
        self.refused(NotThere, short_way, BOOK, (0, 1, None, None, None), 2)


class ShortWays(ErrorCase):
    def compare(self, book, table, key):
        ways = naive_short_ways(book, table, key)
        self.assertEqual(
            (fewest_moves(book, table, key), short_way(book, table, key), count_short_ways(book, table, key)),
            (len(ways[0]) - 1, ways[0], len(ways)), (book, table, key))

    def test_all_small_books_and_tables(self):
        for size, keys in ((1, 2), (2, 3), (3, 2)):
            for book in books(size, keys):
                for table in tables(size, keys):
                    for key in standing(table):
                        self.compare(book, table, key)

    def test_three_keys_in_three_slots(self):
        for book in books(3, 3):
            if book[0][0] == 0:
                for table in tables(3, 3):
                    for key in standing(table):
                        self.compare(book, table, key)

    def test_some_books_of_size_four(self):
        tries = list(permutations(range(4)))[::5]
        for book in product(tries, repeat=4):
            for table in ((0, 1, 2, 3), (3, 2, 1, 0), (1, "gone", 0, 2), (1, 2, None, 0)):
                self.compare(book, table, 0)

    def test_ways_of_no_move(self):
        book = tuple(linear(8, home) for home in range(8))
        for key in range(8):
            self.assertEqual([function(book, FULL, key) for function in SHORT], [0, (key,), 1])
            self.assertIs(shows_way(book, FULL, key, (key,)), True)
        self.assertEqual([function(((0,),), (0,), 0) for function in SHORT], [0, (0,), 1])
        self.assertEqual([function(book[:1], (None,) * 3 + (0,) + ("gone",) * 4, 0) for function in SHORT], [0, (3,), 1])

    def test_a_shortest_way_through_all_slots(self):
        book = (linear(8, 0), *[(slot - 1, slot, *[n for n in range(8) if n not in (slot - 1, slot)])
                                for slot in range(1, 8)])
        self.assertEqual([function(book, FULL, 0) for function in SHORT], [7, FULL, 1])
        self.assertEqual([function(book, FULL, 5) for function in SHORT], [2, (5, 6, 7), 1])

    def test_a_shortest_way_that_comes_back_to_a_slot(self):
        book = ((0, 1, 2), (2, 0, 1), (1, 0, 2))
        self.assertEqual([function(book, (0, 1, 2), 0) for function in SHORT], [3, (0, 1, 2, 0), 2])
        self.assertEqual(delete(book, (0, 1, 2), 0, "short"), (None, 2, 1))

    def test_a_tangled_table_of_size_eight(self):
        self.compare(TANGLED, FULL, 0)
        self.assertEqual(
            [function(TANGLED, FULL, 0) for function in SHORT], [8, (0, 1, 3, 2, 4, 5, 6, 7, 0), 444])

    def test_many_shortest_ways(self):
        book = ((0, 1, 2, 3, 4, 5, 6, 7),) * 8
        self.assertEqual([function(book, FULL, 0) for function in SHORT], [1, (0, 7), 1])
        book = book[:1] + tuple((0, slot, *[n for n in range(1, 8) if n != slot]) for slot in range(1, 8))
        self.assertEqual([function(book, FULL, 0) for function in SHORT], [1, (0, 1), 7])

    def test_tables_that_are_not_right(self):
        table = (None, 1, 0, None, 2)
        self.assertEqual([short_way(BOOK, table, key) for key in (0, 1, 2)], [(2, 4), (1, 4), (4,)])
        self.assertEqual([count_short_ways(BOOK, table, key) for key in (0, 1, 2)], [1, 1, 1])
        for key in (0, 1, 2):
            self.compare(BOOK, table, key)


class ShownWays(ErrorCase):
    def test_which_tuples_are_ways(self):
        # No way in a table of size three has more than four moves: two keys go back two places each at most.
        values = [value for length in range(6) for value in product(range(3), repeat=length)]
        tries = list(permutations(range(3)))
        for book in product(tries[:1], tries, tries):
            for table in ((0, 1, 2), (2, 0, 1), (0, "gone", 2), (1, 2, None)):
                for key in standing(table)[:1]:
                    ways = [value for value in values if shows_way(book, table, key, value)]
                    self.assertEqual(ways, sorted(naive_ways(book, table, key), key=lambda way: (len(way), way)))

    def test_ways_that_are_no_shortest_ones(self):
        book = ((0, 1, 2, 3, 4, 5, 6, 7),) * 8
        for way, shown in ((FULL, True), ((0, 7), True), ((0, 3, 7), True), ((0, 6), False), (FULL[:7], False)):
            self.assertIs(shows_way(book, FULL, 0, way), shown)
        self.assertIs(shows_way(TANGLED, FULL, 0, LONG_WAY), True)
        self.assertIs(shows_way(TANGLED, FULL, 0, (0, 1, 3, 2, 4, 5, 6, 7, 0)), True)
        for cut in range(len(LONG_WAY)):
            self.assertIs(shows_way(TANGLED, FULL, 0, LONG_WAY[:cut]), False)
        for slot in range(8):
            self.assertIs(shows_way(TANGLED, FULL, 0, LONG_WAY + (slot,)), False)

    def test_every_short_way_is_shown(self):
        for book in product(list(permutations(range(4)))[::7], repeat=4):
            for key in range(4):
                way = short_way(book, (2, 3, 0, 1), key)
                self.assertIs(shows_way(book, (2, 3, 0, 1), key, way), True)

    def test_values_that_are_no_ways(self):
        table = (0, 1, 2, 3, None)
        for value in (*ANY_VALUES, 0, (1,), (0, 1), (0, 1, 3), (0, 1, 2, 4), (0, 0), (0, 1, 0), (0, 1, 2, 2), (1, 2),
                      (0, 1, -3), (0, 1, 7), (-5, 1, 2), (5,), (0, True, 2), (False, 1, 2), (0, 1, "2"), (0, None),
                      ((0, 1, 2),), (0, (1, 2)), [0, 1, 2], (0, 1, [2]), (0, {}), "012", (0, 1, 10 ** 30)):
            self.assertIs(shows_way(BOOK, table, 0, value), False, value)
        self.assertIs(shows_way(BOOK, table, 0, (0, 1, 2)), True)

    def test_marks_and_empty_slots_give_no_key(self):
        book = ((0, 1, 2, 3),) * 2
        self.assertIs(shows_way(book, (0, "gone", None, 1), 0, (0, 1)), False)
        self.assertIs(shows_way(book, (0, "gone", None, 1), 0, (0, 2)), False)
        self.assertIs(shows_way(book, (0, "gone", None, 1), 0, (0, 1, 3)), False)
        self.assertIs(shows_way(book, (0, "gone", None, 1), 0, (0, 3)), True)
        self.assertIs(shows_way(book, (0, "gone", None, 1), 0, (0,)), False)
        self.assertIs(shows_way(book, (0, "gone", None, 1), 1, (3,)), True)

    def test_size_one(self):
        self.assertIs(shows_way(((0,), (0,)), (1,), 1, (0,)), True)
        for value in ((), (0, 0), (1,), (False,), [0], None):
            self.assertIs(shows_way(((0,), (0,)), (1,), 1, value), False)


class WrongWays(ErrorCase):
    def calls(self):
        for function in SHORT:
            yield function, ()
        for value in ((0, 1, 2), (0,), None):
            yield shows_way, (value,)

    def test_no_book_and_no_table(self):
        for function, more in self.calls():
            for value in ANY_VALUES:
                if value != ((0, 1), (1, 0)):
                    self.refused(BadBook, function, value, None, None, *more)
                self.refused_at(BadTable, None, function, BOOK, value, None, *more)
            self.refused_at(BadBook, 2, function, BOOK[:2] + ((0, 1),), (None,) * 5, 0, *more)
            self.refused_at(BadTable, 4, function, BOOK, (0, "gone", 2, None, 2), 1, *more)
            self.refused_at(BadTable, 0, function, BOOK, (True, 0, 2, None, 4), 1, *more)

    def test_no_key(self):
        for function, more in self.calls():
            for value in (*ANY_VALUES, 4):
                self.refused(BadKey, function, BOOK, (0, 1, 2, 3, None), value, *more)

    def test_a_key_that_does_not_stand_there(self):
        for function, more in self.calls():
            self.refused(NotThere, function, BOOK, (0, 1, "gone", None, 3), 2, *more)
            self.refused(NotThere, function, BOOK, (None,) * 5, 0, *more)
            self.refused(NotThere, function, ((0,), (0,)), (1,), 0, *more)


def can_stand(tries, filled, slot, other):
    """Whether a key with these tries stands at the other slot, passes the slot, and is found."""
    ahead = tries[:tries.index(other)]
    return slot in ahead and set(ahead) <= set(filled)


class Suspects(ErrorCase):
    def all_tries(self, size):
        lines = [linear(size, home) for home in range(size)]
        steps = {1: (1,), 2: (1,), 3: (1, 2), 4: (1, 3), 5: (1, 2, 3, 4)}[size]
        return {
            "any": list(permutations(range(size))),
            "linear": lines,
            "stepped": [stepped(size, home, step) for home in range(size) for step in steps],
        }

    def test_all_of_sizes_up_to_five(self):
        for size in range(1, 6):
            for family, orders in self.all_tries(size).items():
                for many in range(1, size + 1):
                    for filled in combinations(range(size), many):
                        for slot in filled:
                            wanted = tuple(
                                other for other in filled
                                if other != slot and any(can_stand(tries, filled, slot, other) for tries in orders))
                            self.assertEqual(suspects(size, family, filled, slot), wanted)

    def test_suspects_pass_the_slot_in_tables(self):
        seen = set()
        for book in books(3, 2):
            for table in tables(3, 2):
                filled = tuple(slot for slot in range(3) if table[slot] is not None)
                if naive_is_right(book, table) and filled == (0, 2):
                    for key in standing(table):
                        if book[key].index(0) < book[key].index(table.index(key)):
                            seen.add(table.index(key))
        self.assertEqual(suspects(3, "any", (0, 2), 0), tuple(sorted(seen)))

    def test_size_one_and_size_eight(self):
        for family in families():
            self.assertEqual(suspects(1, family, (0,), 0), ())
            self.assertEqual(suspects(8, family, FULL, 3), (0, 1, 2, 4, 5, 6, 7))
            self.assertEqual(suspects(8, family, (6,), 6), ())
        filled = (0, 1, 2, 4, 7)
        self.assertEqual(suspects(8, "any", filled, 7), (0, 1, 2, 4))
        self.assertEqual(suspects(8, "linear", filled, 7), (0, 1, 2))
        self.assertEqual(suspects(8, "stepped", filled, 7), (0, 1, 2, 4))
        self.assertEqual(suspects(8, "linear", filled, 2), ())
        self.assertEqual(suspects(8, "stepped", filled, 2), (0, 1, 4, 7))
        self.assertEqual(suspects(8, "stepped", (0, 2, 4, 6), 0), ())
        self.assertEqual(suspects(8, "any", (0, 2, 4, 6), 0), (2, 4, 6))

    def test_no_size(self):
        for value in (*ANY_VALUES, 0):
            self.refused(BadSize, suspects, value, None, None, None)

    def test_no_family(self):
        for value in (*ANY_VALUES, "fill", families(), 0):
            if value != "any":
                self.refused(BadFamily, suspects, 5, value, None, None)

    def test_no_ascending_tuple_of_slots(self):
        for value in (*ANY_VALUES, [0, 1], (1, 0), (0, 0), (0, 1, 1), (0, 5), (-1, 0), (0, True), (False, 1), (0, None),
                      (0, "1"), (0, 1, (2,)), (0, [1]), (2, 1, 0), tuple(range(6))):
            if value not in ((), (0,)) or value == (True,):
                self.refused(BadSlots, suspects, 5, "any", value, 0)
                self.refused(BadSlots, suspects, 5, "linear", value, None)

    def test_no_slot_of_filled(self):
        for family in families():
            for value in (*ANY_VALUES, 1, 5, -5):
                self.refused(BadNumber, suspects, 5, family, (0, 3), value)
                self.refused(BadNumber, suspects, 5, family, (), value)
            self.refused(BadNumber, suspects, 5, family, (), 0)
            self.refused(BadNumber, suspects, 2, family, (0, 1), True)


if __name__ == "__main__":
    unittest.main()
