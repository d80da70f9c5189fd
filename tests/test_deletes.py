import unittest
from itertools import product

from helpers import (
    ANY_VALUES, ErrorCase, books, naive_delete, naive_is_right, naive_look_up, standing, tables,
)
from probetables.books import families, in_family, linear, stepped
from probetables.deletes import delete, delete_rules, is_right_rule, wrong_case
from probetables.errors import BadBook, BadFamily, BadKey, BadRule, BadTable, NotThere

BOOK = ((0, 1, 2, 3, 4), (0, 1, 2, 3, 4), (1, 2, 3, 4, 0), (3, 4, 0, 1, 2))
RULES = ("empty", "fill", "last", "mark", "once", "scan", "short")
RIGHT = {
    "any": ("fill", "mark", "short"),
    "linear": ("fill", "mark", "scan", "short"),
    "stepped": ("fill", "mark", "short"),
}


def by_all(book, table, key):
    return {rule: delete(book, table, key, rule) for rule in RULES}


class Example(ErrorCase):
    def test_example_of_the_interface(self):
        table = (0, 1, 2, 3, None)
        self.assertEqual(
            [delete(BOOK, table, 0, rule) for rule in ("mark", "empty", "once", "last")],
            [("gone", 1, 2, 3, None), (None, 1, 2, 3, None), (1, None, 2, 3, None), (3, 1, 2, None, None)])
        self.assertEqual(
            [delete(BOOK, table, 0, "scan"), len(delete_rules()),
             [is_right_rule("scan", family) for family in ("any", "linear", "stepped")], wrong_case("fill", "any")],
            [(1, 2, None, 3, None), 7, [False, True, False], None])
        self.refused(BadRule, delete, BOOK, table, 3, "shift")


class Deleting(ErrorCase):
    def test_names(self):
        self.assertEqual(delete_rules(), RULES)

    def compare(self, book, table):
        for key in standing(table):
            for rule in RULES:
                self.assertEqual(
                    delete(book, table, key, rule), naive_delete(book, table, key, rule), (book, table, key, rule))

    def test_all_small_books_and_tables(self):
        for size, keys in ((1, 2), (2, 3), (3, 2)):
            for book in books(size, keys):
                for table in tables(size, keys):
                    self.compare(book, table)

    def test_three_keys_in_three_slots(self):
        # A third of the books; the others are turns of these.
        for book in books(3, 3):
            if book[0][0] == 0:
                for table in tables(3, 3):
                    self.compare(book, table)

    def test_some_books_of_larger_sizes(self):
        for size in (5, 6, 7, 8):
            homes = [(at * at + size) % size for at in range(5)]
            for shift, turn in product(range(size), (1, size - 1)):
                book = (
                    *[stepped(size, (home + shift) % size, turn) for home in homes[:3]],
                    *[linear(size, home) for home in homes[3:]],
                    tuple(reversed(range(size))))
                for blank in ((None,), ("gone",), (None, "gone"), ("gone", "gone", None)):
                    rest = (blank * size)[:size - 5]
                    self.compare(book, (3, 0, *rest, 2, 5, 4))
                    self.compare(book, (*rest[1:], 5, 2, 3, 1, 4, *rest[:1]))

    def test_size_one(self):
        for rule in RULES:
            left = ("gone",) if rule == "mark" else (None,)
            self.assertEqual(delete(((0,), (0,)), (1,), 1, rule), left)

    def test_a_key_alone_in_a_table_of_size_eight(self):
        book = (linear(8, 7),)
        before = (None,) * 6 + ("gone", 0)
        for rule in RULES:
            left = (None,) * 6 + ("gone", "gone" if rule == "mark" else None)
            self.assertEqual(delete(book, before, 0, rule), left)
        self.assertEqual(before, (None,) * 6 + ("gone", 0))

    def test_a_key_that_no_other_key_passes(self):
        book = tuple(linear(8, home) for home in range(8))
        full = tuple(range(8))
        for rule in ("empty", "once", "scan", "fill", "short"):
            self.assertEqual(delete(book, full, 5, rule), (0, 1, 2, 3, 4, None, 6, 7))
        self.assertEqual(delete(book, full, 5, "last"), (0, 1, 2, 3, None, 4, 6, 7))
        self.assertEqual(delete(book, full, 5, "mark"), (0, 1, 2, 3, 4, "gone", 6, 7))

    def test_a_full_table_of_size_eight(self):
        book = (linear(8, 6),) * 8
        full = (2, 3, 4, 5, 6, 7, 0, 1)
        self.assertEqual(by_all(book, full, 0), {
            "empty": (2, 3, 4, 5, 6, 7, None, 1),
            "fill": (3, 4, 5, 6, 7, None, 1, 2),
            "last": (2, 3, 4, 5, 6, None, 7, 1),
            "mark": (2, 3, 4, 5, 6, 7, "gone", 1),
            "once": (2, 3, 4, 5, 6, 7, 1, None),
            "scan": (3, 4, 5, 6, 7, None, 1, 2),
            "short": (2, 3, 4, 5, 6, None, 7, 1),
        })

    def test_an_empty_slot_ends_scan_and_last_but_not_once_and_fill(self):
        book = (linear(6, 1), stepped(6, 1, 5), (1, 5, 0, 2, 3, 4), (0, 2, 1, 3, 4, 5))
        table = (1, 0, 3, None, None, 2)
        self.assertEqual(by_all(book, table, 0), {
            "empty": (1, None, 3, None, None, 2),
            "fill": (1, 2, 3, None, None, None),
            "last": (1, 3, None, None, None, 2),
            "mark": (1, "gone", 3, None, None, 2),
            "once": (1, 2, 3, None, None, None),
            "scan": (1, None, 3, None, None, 2),
            "short": (1, 2, 3, None, None, None),
        })

    def test_scan_goes_anywhere_if_no_slot_is_empty(self):
        book = (linear(4, 2), (2, 1, 0, 3), (1, 2, 3, 0))
        self.assertEqual(delete(book, ("gone", 1, 0, "gone"), 0, "scan"), ("gone", None, 1, "gone"))
        self.assertEqual(delete(book, ("gone", 1, 0, 2), 0, "scan"), ("gone", 1, 2, None))
        self.assertEqual(delete(book, (None, 1, 0, 2), 0, "scan"), (None, 1, 2, None))
        self.assertEqual(delete(book, (None, 1, 0, "gone"), 0, "scan"), (None, 1, None, "gone"))

    def test_marks_are_passed_and_stay(self):
        book = (linear(6, 0),) * 3
        table = (0, "gone", 1, "gone", 2, None)
        self.assertEqual(by_all(book, table, 0), {
            "empty": (None, "gone", 1, "gone", 2, None),
            "fill": (1, "gone", 2, "gone", None, None),
            "last": (2, "gone", 1, "gone", None, None),
            "mark": ("gone", "gone", 1, "gone", 2, None),
            "once": (1, "gone", None, "gone", 2, None),
            "scan": (1, "gone", 2, "gone", None, None),
            "short": (2, "gone", 1, "gone", None, None),
        })

    def test_tables_that_are_not_right(self):
        table = (None, 1, 0, None, 2)
        self.assertEqual(by_all(BOOK, table, 1), {
            "empty": (None, None, 0, None, 2),
            "fill": (None, 0, 2, None, None),
            "last": (None, 0, None, None, 2),
            "mark": (None, "gone", 0, None, 2),
            "once": (None, 0, None, None, 2),
            "scan": (None, 0, None, None, 2),
            "short": (None, 2, 0, None, None),
        })


class RightRules(ErrorCase):
    def test_which_rules_are_right(self):
        for family, rule in product(families(), RULES):
            self.assertIs(is_right_rule(rule, family), rule in RIGHT[family])
            self.assertEqual(wrong_case(rule, family) is None, rule in RIGHT[family])

    def test_each_case_is_one(self):
        for family, rule in product(families(), RULES):
            if rule not in RIGHT[family]:
                self.is_case(rule, family, wrong_case(rule, family))

    def is_case(self, rule, family, case):
        self.assertIs(type(case), tuple)
        book, table, key = case
        self.assertIs(in_family(book, family), True)
        self.assertTrue(naive_is_right(book, table))
        self.assertIn(key, standing(table))
        self.assertFalse(naive_is_right(book, naive_delete(book, table, key, rule)))
        self.assertEqual(delete(book, table, key, rule), naive_delete(book, table, key, rule))

    def keeps_look_ups(self, rule, book, table):
        """Every key that is left is found, by no more slots than before."""
        for key in standing(table):
            left = delete(book, table, key, rule)
            self.assertEqual(sorted(standing(left) + [key]), sorted(standing(table)))
            self.assertTrue(naive_is_right(book, left), (book, table, key, rule))
            for other in standing(left):
                self.assertLessEqual(naive_look_up(book, left, other)[1], naive_look_up(book, table, other)[1])

    def test_right_rules_keep_look_ups_right_with_any_tries(self):
        for size, keys in ((1, 2), (2, 3), (3, 2)):
            for book in books(size, keys):
                for table in tables(size, keys):
                    if naive_is_right(book, table):
                        for rule in RIGHT["any"]:
                            self.keeps_look_ups(rule, book, table)

    def test_scan_keeps_look_ups_right_with_linear_tries(self):
        for size, keys in ((1, 2), (2, 3), (3, 3), (4, 3)):
            for homes in product(range(size), repeat=keys):
                book = tuple(linear(size, home) for home in homes)
                if homes[0] == 0:
                    for table in tables(size, keys):
                        if naive_is_right(book, table):
                            self.keeps_look_ups("scan", book, table)

    def test_right_rules_in_tables_of_size_eight(self):
        full = (3, 0, 5, 7, 1, 6, 2, 4)
        for turn in range(8):
            book = tuple(linear(8, (at * at + turn) % 8) for at in range(8))
            for rule in RIGHT["linear"]:
                self.keeps_look_ups(rule, book, full)
            book = tuple(stepped(8, (at * at + turn) % 8, (1, 3, 5, 7)[at % 4]) for at in range(8))
            for rule in RIGHT["stepped"]:
                self.keeps_look_ups(rule, book, full)


class WrongDeletes(ErrorCase):
    def test_no_book_and_no_table(self):
        self.refused_at(BadBook, None, delete, [], (0,), 0, "mark")
        self.refused_at(BadBook, 1, delete, ((0, 1), (1, 1)), (0, None), 0, "mark")
        self.refused_at(BadTable, None, delete, BOOK, [0, None, None, None, None], 0, "mark")
        self.refused_at(BadTable, 3, delete, BOOK, (None, 1, "gone", 1, 9), 0, "mark")
        self.refused_at(BadTable, 2, delete, BOOK, (0, 1, True, None, None), 0, "mark")
        for value in ANY_VALUES:
            self.refused_at(BadTable, None, delete, BOOK, value, 0, "mark")

    def test_no_key(self):
        for value in (*ANY_VALUES, 4):
            for rule in RULES:
                self.refused(BadKey, delete, BOOK, (0, 1, 2, 3, None), value, rule)

    def test_no_rule(self):
        for value in (*ANY_VALUES, "Mark", "mark ", "swap", "poor", "shift", RULES, 0):
            self.refused(BadRule, delete, BOOK, (0, 1, 2, 3, None), 0, value)
            self.refused(BadRule, is_right_rule, value, "linear")
            self.refused(BadRule, wrong_case, value, "linear")

    def test_no_family(self):
        for value in (*ANY_VALUES, "Stepped", "any ", RULES, families(), 0):
            if value != "any":
                for rule in RULES:
                    self.refused(BadFamily, is_right_rule, rule, value)
                    self.refused(BadFamily, wrong_case, rule, value)

    def test_a_key_that_does_not_stand_there(self):
        for rule in RULES:
            self.refused(NotThere, delete, BOOK, (None,) * 5, 0, rule)
            self.refused(NotThere, delete, BOOK, (0, 1, 2, "gone", None), 3, rule)
            # Keys that are not found, in a table that is not right, can be deleted.
            self.refused(NotThere, delete, BOOK, (None, 1, "gone", None, None), 0, rule)
            self.assertNotIn(1, delete(BOOK, (None, 1, "gone", None, None), 1, rule))

    def test_order_of_errors(self):
        self.refused(BadBook, delete, (), (), None, None)
        self.refused(BadTable, delete, BOOK, (), None, None)
        self.refused(BadKey, delete, BOOK, (None,) * 5, None, None)
        self.refused(BadRule, delete, BOOK, (None,) * 5, 0, None)
        for function in (is_right_rule, wrong_case):
            self.refused(BadRule, function, "any", "mark")
            self.refused(BadRule, function, None, None)


if __name__ == "__main__":
    unittest.main()
