import unittest

from helpers import (
    ANY_VALUES, ErrorCase, books, naive_is_right, naive_look_up, naive_passing, standing, tables,
)
from probetables.books import linear, stepped
from probetables.errors import BadBook, BadKey, BadNumber, BadTable
from probetables.tables import (
    clearable, cleared, is_right, look_up, looked_at, lost_key, passing, places_sum,
)

BOOK = ((0, 1, 2, 3, 4), (0, 1, 2, 3, 4), (1, 2, 3, 4, 0), (3, 4, 0, 1, 2))
PLAIN = (is_right, lost_key, places_sum, clearable, cleared)
KEYED = (look_up, looked_at)


class Example(ErrorCase):
    def test_example_of_the_interface(self):
        table, holed = (0, 1, 2, 3, None), (None, 1, 2, 3, None)
        self.assertEqual(
            [look_up(BOOK, table, 2), looked_at(BOOK, table, 2), passing(BOOK, table, 1), places_sum(BOOK, table),
             is_right(BOOK, holed), lost_key(BOOK, holed)],
            [2, 2, (2,), 2, False, 1])
        self.assertEqual(
            [clearable(BOOK, ("gone", 1, "gone", 3, None)), cleared(BOOK, ("gone", 1, "gone", 3, None))],
            [(2,), ("gone", 1, None, 3, None)])
        self.refused_at(BadTable, 2, look_up, BOOK, (0, 1, 1, None, None), 1)


class LookUps(ErrorCase):
    def test_all_small_books_and_tables(self):
        for size, keys in ((1, 2), (2, 3), (3, 2)):
            for book in books(size, keys):
                for table in tables(size, keys):
                    for key in range(keys):
                        self.assertEqual(
                            (look_up(book, table, key), looked_at(book, table, key)), naive_look_up(book, table, key))

    def test_ends_at_an_empty_slot(self):
        book = (linear(8, 6), linear(8, 6))
        self.assertEqual(look_up(book, (1, None, None, None, None, None, 0, "gone"), 1), 0)
        self.assertEqual(looked_at(book, (1, None, None, None, None, None, 0, "gone"), 1), 3)
        self.assertIsNone(look_up(book, (1, None, None, None, None, None, 0, None), 1))
        self.assertEqual(looked_at(book, (1, None, None, None, None, None, 0, None), 1), 2)

    def test_goes_through_all_slots_of_a_table_without_an_empty_one(self):
        book = tuple(stepped(8, 0, 3) for _ in range(8))
        self.assertIsNone(look_up(book, ("gone",) * 8, 0))
        self.assertEqual(looked_at(book, ("gone",) * 8, 0), 8)
        full = (0, 1, 2, 3, 4, 5, 6, 7)
        self.assertEqual([look_up(book, full, key) for key in range(8)], list(range(8)))
        self.assertEqual([looked_at(book, full, key) for key in range(8)], [1, 4, 7, 2, 5, 8, 3, 6])

    def test_size_one(self):
        book = ((0,), (0,))
        self.assertEqual([look_up(book, (1,), 0), look_up(book, (1,), 1), look_up(book, (None,), 1)], [None, 0, None])
        self.assertEqual([looked_at(book, (1,), 0), looked_at(book, ("gone",), 1)], [1, 1])

    def test_no_key(self):
        for value in (*ANY_VALUES, 4, 5):
            for function in KEYED:
                self.refused(BadKey, function, BOOK, (None, 1, 0, None, None), value)


class RightTables(ErrorCase):
    def test_all_small_books_and_tables(self):
        for size, keys in ((1, 2), (2, 3), (3, 2)):
            for book in books(size, keys):
                for table in tables(size, keys):
                    self.compare(book, table)

    def compare(self, book, table):
        lost = [key for key in sorted(standing(table)) if naive_look_up(book, table, key)[0] is None]
        self.assertEqual(lost_key(book, table), lost[0] if lost else None)
        self.assertIs(is_right(book, table), naive_is_right(book, table))
        for slot in range(len(table)):
            self.assertEqual(passing(book, table, slot), naive_passing(book, table, slot))
        places = [book[key].index(table.index(key)) for key in standing(table)]
        self.assertEqual(places_sum(book, table), sum(places))
        passed = [slot for slot, item in enumerate(table) if item is None and naive_passing(book, table, slot)]
        self.assertIs(is_right(book, table), not passed)

    def test_the_least_of_several_lost_keys(self):
        book = (linear(4, 0),) * 4
        self.assertEqual(lost_key(book, (None, 3, 1, 2)), 1)
        self.assertEqual(lost_key(book, (2, None, 3, 0)), 0)
        self.assertIsNone(lost_key(book, ("gone", 3, 1, 2)))
        self.assertIs(is_right(book, ("gone", 3, 1, 2)), True)

    def test_a_full_table_is_right(self):
        book = tuple(linear(8, 0) for _ in range(8))
        self.assertIs(is_right(book, (7, 6, 5, 4, 3, 2, 1, 0)), True)
        self.assertIsNone(lost_key(book, (7, 6, 5, 4, 3, 2, 1, 0)))
        self.assertEqual(places_sum(book, (7, 6, 5, 4, 3, 2, 1, 0)), 28)
        self.assertEqual(passing(book, (7, 6, 5, 4, 3, 2, 1, 0), 0), (0, 1, 2, 3, 4, 5, 6))
        self.assertEqual(passing(book, (7, 6, 5, 4, 3, 2, 1, 0), 7), ())

    def test_keys_pass_slots_in_tables_that_are_not_right_too(self):
        self.assertEqual(passing(BOOK, (None, 1, 0, None, None), 0), (0, 1))
        self.assertEqual(places_sum(BOOK, (None, 1, 0, None, None)), 3)

    def test_an_empty_table(self):
        table = (None,) * 5
        self.assertEqual(
            [is_right(BOOK, table), lost_key(BOOK, table), places_sum(BOOK, table), passing(BOOK, table, 4)],
            [True, None, 0, ()])

    def test_no_slot(self):
        for value in (*ANY_VALUES, 5, 6):
            self.refused(BadNumber, passing, BOOK, (None, 1, 0, None, None), value)


class Marks(ErrorCase):
    def test_all_small_books_and_tables(self):
        for size, keys in ((1, 1), (2, 3), (3, 2)):
            for book in books(size, keys):
                for table in tables(size, keys):
                    free = tuple(
                        slot for slot in range(size) if table[slot] == "gone" and not naive_passing(book, table, slot))
                    left = tuple(None if slot in free else table[slot] for slot in range(size))
                    self.assertEqual(clearable(book, table), free)
                    self.assertEqual(cleared(book, table), left)
                    self.assertEqual(is_right(book, left), is_right(book, table))

    def test_marks_alone_all_go(self):
        self.assertEqual(clearable(BOOK, ("gone",) * 5), (0, 1, 2, 3, 4))
        self.assertEqual(cleared(BOOK, ("gone",) * 5), (None,) * 5)

    def test_marks_that_a_key_passes_stay(self):
        table = ("gone", "gone", 1, "gone", None)
        self.assertEqual(clearable(BOOK, table), (3,))
        self.assertEqual(cleared(BOOK, table), ("gone", "gone", 1, None, None))
        self.assertEqual(table, ("gone", "gone", 1, "gone", None))

    def test_without_marks_nothing_goes(self):
        self.assertEqual(clearable(BOOK, (0, 1, 2, 3, None)), ())
        self.assertEqual(cleared(BOOK, (0, 1, 2, 3, None)), (0, 1, 2, 3, None))


class WrongTables(ErrorCase):
    def refused_by_all(self, error, index, book, table):
        for function in PLAIN:
            self.refused_at(error, index, function, book, table)
        for function in KEYED + (passing,):
            self.refused_at(error, index, function, book, table, 0)
            # The book and the table come ahead of the third argument.
            self.refused_at(error, index, function, book, table, None)

    def test_no_tuple_of_as_many_items_as_the_size(self):
        for value in (*ANY_VALUES, (None,) * 4, (None,) * 6, [None] * 5, ("x",) * 6):
            self.refused_by_all(BadTable, None, BOOK, value)

    def test_items_that_are_none(self):
        for value in (*ANY_VALUES, 4, "Gone", "x", "."):
            if value is not None and value != "gone":
                self.refused_by_all(BadTable, 0, BOOK, (value, None, 0, 1, 2))
                self.refused_by_all(BadTable, 3, BOOK, (None, "gone", 0, value, 9))

    def test_truth_values_are_no_keys(self):
        self.refused_by_all(BadTable, 1, BOOK, (None, True, None, None, None))
        self.refused_by_all(BadTable, 4, BOOK, (1, None, None, None, False))

    def test_keys_that_stood_before(self):
        self.refused_by_all(BadTable, 4, BOOK, (0, 1, 2, "gone", 0))
        self.refused_by_all(BadTable, 1, BOOK, (3, 3, 9, 9, 9))
        self.refused_by_all(BadTable, 2, BOOK, (0, 1, 1, 0, True))

    def test_first_error_is_that_of_the_book(self):
        self.refused_by_all(BadBook, None, [], ())
        self.refused_by_all(BadBook, None, list(BOOK), (None,) * 5)
        self.refused_by_all(BadBook, 1, ((0, 1), (0,)), (True, True))
        self.refused_by_all(BadBook, 0, ((0, False),), (None, None))


if __name__ == "__main__":
    unittest.main()
