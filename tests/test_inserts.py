import unittest
from itertools import combinations, permutations, product

from helpers import (
    ANY_VALUES, ErrorCase, NAIVE_RULES, books, naive_is_right, naive_orders, naive_passing, standing, tables,
)
from probetables.books import linear, stepped
from probetables.errors import AlreadyThere, BadBook, BadKey, BadRule, BadTable, Full, NotClean, NotRight
from probetables.inserts import count_orders, insert, insert_rules, least_order, ring
from probetables.tables import is_right, places_sum

BOOK = ((0, 1, 2, 3, 4), (0, 1, 2, 3, 4), (1, 2, 3, 4, 0))
ORDERS = (count_orders, least_order, ring)
MOVING = ("poor", "swap")


def filled(book, order, rule):
    table = (None,) * len(book[0])
    for key in order:
        table = insert(book, table, key, rule)
    return table


class Example(ErrorCase):
    def test_example_of_the_interface(self):
        self.assertEqual(
            [insert(BOOK, (0, 1, None, None, None), 2, rule) for rule in insert_rules()],
            [(0, 1, 2, None, None), (0, 1, 2, None, None), (0, 2, 1, None, None)])
        self.assertEqual(
            [count_orders(BOOK, (0, 1, 2, None, None)), least_order(BOOK, (0, 2, 1, None, None)),
             len(ring(((0, 1), (1, 0)), (1, 0))), least_order(((0, 1), (1, 0)), (1, 0))],
            [1, (0, 2, 1), 2, None])
        self.refused(NotClean, insert, BOOK, (0, "gone", None, None, None), 2, "swap")


class Inserting(ErrorCase):
    def test_names(self):
        self.assertEqual(insert_rules(), ("poor", "stay", "swap"))

    def test_all_small_books_and_tables(self):
        for size, keys in ((1, 2), (2, 3), (3, 3)):
            for book in books(size, keys):
                for table in tables(size, keys):
                    for rule in NAIVE_RULES:
                        self.compare(book, table, keys - 1, rule)

    def compare(self, book, table, key, rule):
        if rule != "stay" and not naive_is_right(book, table):
            self.refused(NotRight, insert, book, table, key, rule)
        elif rule != "stay" and "gone" in table:
            self.refused(NotClean, insert, book, table, key, rule)
        elif key in table:
            self.refused(AlreadyThere, insert, book, table, key, rule)
        elif len(standing(table)) == len(table):
            self.refused(Full, insert, book, table, key, rule)
        else:
            self.assertEqual(insert(book, table, key, rule), NAIVE_RULES[rule](book, table, key))

    def test_stay_takes_a_mark_ahead_of_an_empty_slot(self):
        self.assertEqual(insert(BOOK, (0, "gone", None, None, None), 2, "stay"), (0, 2, None, None, None))
        self.assertEqual(insert(BOOK, (0, None, "gone", None, None), 2, "stay"), (0, 2, "gone", None, None))
        self.assertEqual(insert(BOOK, (0, 1, "gone", "gone", "gone"), 2, "stay"), (0, 1, 2, "gone", "gone"))

    def test_stay_takes_tables_that_are_not_right(self):
        self.assertEqual(insert(BOOK, (None, 1, None, None, None), 2, "stay"), (None, 1, 2, None, None))
        self.assertEqual(insert(BOOK, (None, 1, None, None, None), 0, "stay"), (0, 1, None, None, None))

    def test_swap_moves_one_key_after_another(self):
        book = (linear(8, 6), linear(8, 6), linear(8, 7), linear(8, 6))
        before = (2, None, None, None, None, None, 0, 1)
        self.assertEqual(insert(book, before, 3, "swap"), (1, 2, None, None, None, None, 3, 0))
        self.assertEqual(before, (2, None, None, None, None, None, 0, 1))

    def test_poor_takes_a_slot_only_from_a_lesser_place(self):
        book = ((0, 1, 2, 3), (0, 1, 2, 3), (1, 2, 3, 0), (0, 1, 2, 3))
        self.assertEqual(insert(book, (0, 2, None, None), 1, "poor"), (0, 1, 2, None))
        self.assertEqual(insert(book, (0, 1, None, None), 2, "poor"), (0, 1, 2, None))
        # Equal places: the key that stands there stays.
        self.assertEqual(insert(book, (0, 1, None, None), 3, "poor"), (0, 1, 3, None))
        self.assertEqual(insert(book, (0, 1, 2, None), 3, "poor"), (0, 1, 3, 2))

    def test_last_slot_of_a_table_of_size_eight(self):
        book = tuple(stepped(8, 0, 5) for _ in range(8))
        table = filled(book, range(7), "stay")
        self.assertEqual(table, (0, 5, 2, None, 4, 1, 6, 3))
        self.assertEqual(insert(book, table, 7, "stay"), (0, 5, 2, 7, 4, 1, 6, 3))
        self.assertEqual(insert(book, table, 7, "poor"), (0, 5, 2, 7, 4, 1, 6, 3))
        self.assertEqual(insert(book, table, 7, "swap"), (7, 4, 1, 6, 3, 0, 5, 2))

    def test_size_one(self):
        for rule in insert_rules():
            self.assertEqual(insert(((0,), (0,)), (None,), 1, rule), (1,))
            self.refused(Full, insert, ((0,), (0,)), (0,), 1, rule)
        self.assertEqual(insert(((0,),), ("gone",), 0, "stay"), (0,))

    def test_linear_tries_fill_the_same_slots_at_the_same_cost(self):
        for size, keys in ((3, 3), (4, 3), (5, 4)):
            for homes in product(range(size), repeat=keys):
                book = tuple(linear(size, home) for home in homes)
                made = [filled(book, order, rule) for order in permutations(range(keys)) for rule in insert_rules()]
                self.assertEqual(len({tuple(item is None for item in table) for table in made}), 1)
                self.assertEqual(len({places_sum(book, table) for table in made}), 1)
                self.assertTrue(all(is_right(book, table) for table in made))


class WrongInserts(ErrorCase):
    def test_no_book_and_no_table(self):
        self.refused_at(BadBook, None, insert, [], (None,), 0, "stay")
        self.refused_at(BadBook, 1, insert, ((0, 1), (1, 1)), (None, None), 0, "stay")
        self.refused_at(BadTable, None, insert, BOOK, [None] * 5, 0, "stay")
        self.refused_at(BadTable, 3, insert, BOOK, (None, 1, "gone", 1, 9), 0, "stay")

    def test_no_key(self):
        for value in (*ANY_VALUES, 3):
            self.refused(BadKey, insert, BOOK, (None,) * 5, value, "stay")

    def test_no_rule(self):
        for value in (*ANY_VALUES, "Stay", "mark", "scan", 0):
            if value != "stay":
                self.refused(BadRule, insert, BOOK, (None,) * 5, 0, value)

    def test_order_of_invalid_arguments(self):
        self.refused(BadBook, insert, (), (), None, None)
        self.refused(BadTable, insert, BOOK, (), None, None)
        self.refused(BadKey, insert, BOOK, (None,) * 5, None, None)
        self.refused(BadRule, insert, BOOK, (None, "gone", 1, None, None), 1, "shift")

    def test_order_of_the_errors_that_come_last(self):
        lost_marked = (None, 1, "gone", None, None)
        for rule in MOVING:
            self.refused(NotRight, insert, BOOK, lost_marked, 1, rule)
            self.refused(NotRight, insert, BOOK, (None, 1, None, None, None), 1, rule)
            self.refused(NotClean, insert, BOOK, (0, 1, "gone", None, None), 1, rule)
            self.refused(AlreadyThere, insert, ((0,), (0,)), (1,), 1, rule)
            self.refused(AlreadyThere, insert, BOOK, (0, 1, None, None, None), 1, rule)
        self.refused(AlreadyThere, insert, BOOK, lost_marked, 1, "stay")
        self.refused(AlreadyThere, insert, ((0,), (0,)), (1,), 1, "stay")
        self.refused(Full, insert, ((0, 1), (1, 0), (1, 0)), (1, 0), 2, "stay")

    def test_marks_are_no_keys_of_a_full_table(self):
        self.assertEqual(insert(((0, 1), (1, 0)), (0, "gone"), 1, "stay"), (0, 1))
        self.refused(NotClean, insert, ((0, 1), (1, 0)), (0, "gone"), 1, "poor")


class Orders(ErrorCase):
    def is_ring(self, book, table, keys):
        rounds = zip(keys, keys[1:] + keys[:1])
        return (
            isinstance(keys, tuple) and len(keys) >= 2 and len(set(keys)) == len(keys)
            and all(after in naive_passing(book, table, table.index(key)) for key, after in rounds))

    def compare(self, book, table):
        orders = naive_orders(book, table)
        self.assertEqual(count_orders(book, table), len(orders))
        self.assertEqual(least_order(book, table), orders[0] if orders else None)
        found = ring(book, table)
        if orders or not naive_is_right(book, table):
            self.assertIsNone(found)
        else:
            self.assertTrue(self.is_ring(book, table, found), (book, table, found))

    def test_all_small_books_and_tables(self):
        for size, keys in ((1, 2), (2, 3), (3, 3)):
            for book in books(size, keys):
                for table in tables(size, keys, marks=False):
                    self.compare(book, table)

    def test_some_books_of_size_four(self):
        tries = list(permutations(range(4)))[::5]
        for book in product(tries, repeat=4):
            for table in ((0, 1, 2, 3), (3, 2, 1, 0), (1, 2, None, 0)):
                self.compare(book, table)

    def test_a_table_without_keys(self):
        self.assertEqual(
            [count_orders(BOOK, (None,) * 5), least_order(BOOK, (None,) * 5), ring(BOOK, (None,) * 5)], [1, (), None])

    def test_a_table_of_size_eight(self):
        book = tuple(linear(8, home) for home in range(8))
        self.assertEqual(count_orders(book, tuple(range(8))), 40320)
        self.assertEqual(least_order(book, tuple(range(8))), tuple(range(8)))
        self.assertIsNone(ring(book, tuple(range(8))))
        turned = (7, 0, 1, 2, 3, 4, 5, 6)
        self.assertEqual([count_orders(book, turned), least_order(book, turned)], [0, None])
        self.assertTrue(self.is_ring(book, turned, ring(book, turned)))
        self.assertEqual(len(ring(book, turned)), 8)

    def test_orders_are_compared_key_by_key(self):
        book = (linear(4, 1), linear(4, 1), linear(4, 3), linear(4, 0))
        self.assertEqual(least_order(book, (3, 1, 0, 2)), (1, 0, 2, 3))
        self.assertEqual(count_orders(book, (3, 1, 0, 2)), 12)

    def test_a_ring_beside_keys_outside_of_it(self):
        book = ((0, 1, 2, 3, 4), (1, 2, 0, 3, 4), (2, 0, 1, 3, 4), (0, 3, 1, 2, 4), (4, 0, 1, 2, 3))
        table = (2, 0, 1, 3, 4)
        found = ring(book, table)
        self.assertTrue(self.is_ring(book, table, found))
        self.assertEqual(sorted(found), [0, 1, 2])

    def test_a_ring_in_a_table_that_is_not_right_does_not_count(self):
        book = ((0, 1, 2, 3), (1, 0, 2, 3), (2, 3, 0, 1))
        self.assertEqual(len(ring(book, (1, 0, 2, None))), 2)
        self.assertIsNone(ring(book, (1, 0, None, 2)))
        self.assertEqual([count_orders(book, (1, 0, None, 2)), least_order(book, (1, 0, None, 2))], [0, None])

    def test_marks(self):
        for function in ORDERS:
            self.refused(NotClean, function, BOOK, ("gone", None, None, None, None))
            self.refused(NotClean, function, BOOK, (0, 1, "gone", 2, None))
            self.refused(NotClean, function, BOOK, (None, 1, "gone", 2, None))

    def test_no_book_and_no_table(self):
        for function in ORDERS:
            self.refused_at(BadBook, None, function, None, ("gone",))
            self.refused_at(BadBook, 0, function, ((0, 2),), ("gone",))
            self.refused_at(BadTable, None, function, BOOK, ("gone",) * 4)
            self.refused_at(BadTable, 1, function, BOOK, ("gone", 3, None, None, None))
            for value in ANY_VALUES:
                self.refused_at(BadTable, None, function, BOOK, value)

    def test_ways_to_fill_come_of_insertions(self):
        book = (stepped(5, 0, 2), stepped(5, 0, 3), linear(5, 2), linear(5, 2))
        for many in range(5):
            for keys in combinations(range(4), many):
                for order in permutations(keys):
                    table = filled(book, order, "stay")
                    self.assertEqual(filled(book, least_order(book, table), "stay"), table)
                    self.assertLessEqual(least_order(book, table), order)
                    self.assertIsNone(ring(book, table))


if __name__ == "__main__":
    unittest.main()
