import unittest
from itertools import product

from helpers import ANY_VALUES, ErrorCase, naive_delete, naive_look_up, naive_stay, standing
from probetables.books import linear, stepped
from probetables.deletes import delete_rules
from probetables.desks import Desk
from probetables.errors import (
    AlreadyThere, BadBook, BadRule, Full, InvalidText, NothingToUndo, NotText, NotThere, ProbeError,
)

BOOK = ((0, 1, 2), (0, 1, 2), (1, 2, 0))
NO_STRINGS = [value for value in ANY_VALUES if not isinstance(value, str)]


class Model:
    """The document's words on a desk, as slow code."""

    def __init__(self, book, rule):
        self.book, self.rule, self.past, self.now = book, rule, [], (None,) * len(book[0])

    def changed(self, table):
        self.past.append(self.now)
        self.now = table

    def answer(self, line):
        """What run is to return, or the error that it is to raise."""
        lost = [key for key in sorted(standing(self.now)) if naive_look_up(self.book, self.now, key)[0] is None]
        if line == "table":
            return "".join({None: ".", "gone": "x"}.get(item, str(item)) for item in self.now)
        if line == "lost":
            return str(lost[0]) if lost else "none"
        word, key = line.split()[0], int(line.split()[1])
        slot, looked = naive_look_up(self.book, self.now, key)
        if word == "cost":
            return str(looked)
        if word == "find":
            return "none" if slot is None else str(slot)
        if word == "add":
            if key in self.now:
                return AlreadyThere
            if len(standing(self.now)) == len(self.now):
                return Full
            return self.changed(naive_stay(self.book, self.now, key))
        if key not in self.now:
            return NotThere
        return self.changed(naive_delete(self.book, self.now, key, self.rule))


class DeskCase(ErrorCase):
    def desk(self, *lines, book=BOOK, rule="scan"):
        desk = Desk(book, rule)
        for line in lines:
            self.assertIsNone(desk.run(line))
        return desk

    def unchanged_by(self, error, desk, *lines):
        before = desk.table
        for line in lines:
            self.refused(error, desk.run, line)
            self.assertEqual(desk.table, before)


class Example(DeskCase):
    def test_example_of_the_interface(self):
        desk = Desk(((0, 1, 2), (0, 1, 2), (1, 2, 0)), "scan")
        lines = ("add 0", "add 1", "add 2", "table", "cost 2", "drop 0", "table", "find 0", "lost")
        self.assertEqual(
            [desk.run(line) for line in lines], [None, None, None, "012", "2", None, "12.", "none", "none"])
        self.assertEqual([desk.undo(), desk.table], [None, (0, 1, 2)])
        self.refused(InvalidText, desk.run, "add 3")


class Lines(DeskCase):
    def follow(self, book, rule, lines):
        """Run the lines and take all back, beside the model."""
        desk, model = Desk(book, rule), Model(book, rule)
        for line in lines:
            wanted = model.answer(line)
            if isinstance(wanted, type):
                self.refused(wanted, desk.run, line)
            else:
                self.assertEqual(desk.run(line), wanted, (rule, lines))
            self.assertEqual(desk.table, model.now)
        for table in reversed(model.past):
            self.assertIsNone(desk.undo())
            self.assertEqual(desk.table, table)
        self.refused(NothingToUndo, desk.undo)

    def test_all_short_runs(self):
        asked = ("table", "lost", "find 1", "cost 1", "find 0", "cost 0")
        for rule in delete_rules():
            for lines in product(("add 0", "add 1", "drop 0", "drop 1"), repeat=4):
                self.follow(((0, 1), (0, 1)), rule, (*lines, *asked))

    def test_longer_runs(self):
        asked = ("table", "lost", *[f"{word} {key}" for word in ("find", "cost") for key in range(4)])
        books = (
            (linear(4, 2),) * 4, tuple(stepped(4, at, (1, 3)[at % 2]) for at in range(4)),
            ((0, 2, 1), (0, 1, 2), (0, 2, 1), (2, 1, 0)))
        for book, rule in product(books, delete_rules()):
            lines = []
            for order in ("012", "30", "-1", "-0", "1", "-3", "2", "0", "-2", "-2", "3"):
                word = "drop" if order.startswith("-") else "add"
                lines += [f"{word} {key}" for key in order.strip("-")] + list(asked)
            self.follow(book, rule, lines)

    def test_a_new_desk(self):
        for size in range(1, 9):
            desk = self.desk(book=(linear(size, 0),))
            self.assertEqual(desk.table, (None,) * size)
            self.assertEqual(
                [desk.run(line) for line in ("table", "lost", "find 0", "cost 0")], ["." * size, "none", "none", "1"])

    def test_every_rule_deletes(self):
        book = (linear(5, 0), linear(5, 0), linear(5, 1), linear(5, 3))
        wanted = {
            "empty": ".123.", "fill": "12.3.", "last": "312..", "mark": "x123.", "once": "1.23.", "scan": "12.3.",
            "short": "12.3."}
        for rule in delete_rules():
            desk = self.desk("add 0", "add 1", "add 2", "add 3", "drop 0", book=book, rule=rule)
            self.assertEqual(desk.run("table"), wanted[rule])

    def test_lost_keys(self):
        desk = self.desk("add 0", "add 1", "add 2", rule="empty")
        self.assertEqual([desk.run("lost"), desk.run("find 1")], ["none", "1"])
        self.assertIsNone(desk.run("drop 0"))
        self.assertEqual([desk.run(line) for line in ("table", "lost", "find 1", "cost 1")], [".12", "1", "none", "1"])
        self.assertIsNone(desk.run("drop 1"))
        self.assertEqual([desk.run("lost"), desk.run("table")], ["2", "..2"])

    def test_a_mark_is_taken_by_the_next_key(self):
        desk = self.desk("add 0", "add 1", "drop 0", rule="mark")
        self.assertEqual([desk.run("table"), desk.run("find 1"), desk.run("cost 1")], ["x1.", "1", "2"])
        self.assertIsNone(desk.run("add 0"))
        self.assertEqual(desk.table, (0, 1, None))

    def test_size_eight(self):
        book = tuple(linear(8, 7) for _ in range(8))
        desk = self.desk(*[f"add {key}" for key in range(8)], book=book)
        self.assertEqual([desk.run("table"), desk.run("cost 7"), desk.run("find 7")], ["12345670", "8", "6"])
        self.unchanged_by(AlreadyThere, desk, "add 7")


class WrongLines(DeskCase):
    def test_keys_that_stand_there_or_do_not(self):
        desk = self.desk("add 1")
        self.unchanged_by(AlreadyThere, desk, "add 1")
        self.unchanged_by(NotThere, desk, "drop 0", "drop 2")

    def test_a_full_table(self):
        desk = self.desk("add 1", book=((0,), (0,)))
        self.unchanged_by(Full, desk, "add 0")
        self.unchanged_by(AlreadyThere, desk, "add 1")
        self.unchanged_by(NotThere, desk, "drop 0")

    def test_lines_that_are_nearly_right(self):
        desk = self.desk("add 0", "add 1")
        words = ("add", "drop", "find", "cost")
        for word in words:
            self.unchanged_by(InvalidText, desk, *[line.format(word) for line in (
                "{}", "{} ", " {}", "{}  0", "{} 0 ", " {} 0", "{}0", "{}\t0", "{} 0\n", "{} 3", "{} 8", "{} 9",
                "{} 00", "{} 01", "{} 12", "{} -1", "{} +1", "{} 0 1", "{} x", "{} .", "{} 1.0", "{} None",
                "{} \u0661", "{} \u00b9", "{}\u00a00", "{},0", "0 {}", "{} table", "{}s 0", "{} add")])
            self.unchanged_by(InvalidText, desk, word.upper() + " 0", word.title() + " 0", word[1:] + " 0")
        self.unchanged_by(
            InvalidText, desk, "", " ", "0", "table ", " table", "Table", "table 0", "lost ", " lost", "lost 0", "LOST",
            "table\n", "lost\n", "tables", "undo", "none", "put 0", "look 0", "add 0, add 1", "table lost", "0 0", " 0")

    def test_no_strings(self):
        desk = self.desk("add 0", "add 1")
        self.unchanged_by(NotText, desk, *NO_STRINGS, ("add", 0), ["table"])

    def test_lines_that_raise_leave_nothing_to_take_back(self):
        desk = self.desk("add 0")
        for line in ("add 0", "drop 1", "add 3", "", None, "drop  0"):
            self.assertRaises(ProbeError, desk.run, line)
        self.assertIsNone(desk.undo())
        self.assertEqual(desk.table, (None, None, None))
        self.refused(NothingToUndo, desk.undo)


class Undo(DeskCase):
    def test_several_lines(self):
        desk = self.desk("add 0", "add 1", "drop 0", "add 2", "drop 1")
        seen = []
        for _ in range(5):
            seen.append(desk.run("table"))
            self.assertIsNone(desk.undo())
        self.assertEqual(seen, [".2.", "12.", "1..", "01.", "0.."])
        self.assertEqual(desk.table, (None, None, None))

    def test_lines_that_ask_are_passed_over(self):
        desk = self.desk("add 0", "add 1")
        for line in ("table", "lost", "find 0", "cost 1"):
            self.assertIsInstance(desk.run(line), str)
        self.assertIsNone(desk.undo())
        self.assertEqual(desk.table, (0, None, None))

    def test_nothing_to_take_back(self):
        desk = Desk(BOOK, "mark")
        self.refused(NothingToUndo, desk.undo)
        self.assertEqual(desk.run("table"), "...")
        self.refused(NothingToUndo, desk.undo)
        self.assertIsNone(desk.run("add 2"))
        self.assertIsNone(desk.undo())
        self.refused(NothingToUndo, desk.undo)
        self.assertEqual(desk.table, (None, None, None))

    def test_a_line_after_undo(self):
        desk = self.desk("add 0", "add 1")
        self.assertIsNone(desk.undo())
        self.assertIsNone(desk.run("add 2"))
        self.assertEqual(desk.table, (0, 2, None))
        self.assertIsNone(desk.undo())
        self.assertEqual(desk.table, (0, None, None))

    def test_a_mark_is_taken_back(self):
        desk = self.desk("add 0", "drop 0", rule="mark")
        self.assertEqual(desk.table, ("gone", None, None))
        self.assertIsNone(desk.undo())
        self.assertEqual(desk.table, (0, None, None))


class NewDesks(DeskCase):
    def test_desks_are_apart(self):
        one, two = Desk(BOOK, "scan"), Desk(BOOK, "scan")
        one.run("add 0")
        self.assertEqual([one.table, two.table], [(0, None, None), (None, None, None)])
        self.refused(NothingToUndo, two.undo)

    def test_table_is_a_property(self):
        self.assertIsInstance(vars(Desk)["table"], property)
        desk = self.desk("add 1")
        self.assertIs(type(desk.table), tuple)
        self.assertEqual([desk.table, desk.table], [(1, None, None)] * 2)

    def test_no_book(self):
        for value in ANY_VALUES:
            if value != ((0, 1), (1, 0)):
                self.refused(BadBook, Desk, value, "scan")
                self.refused(BadBook, Desk, value, None)
        self.refused_at(BadBook, 1, Desk, ((0, 1), (0,)), "scan")

    def test_no_rule(self):
        for value in (*ANY_VALUES, "Scan", "swap", "poor", "shift", delete_rules(), 0):
            self.refused(BadRule, Desk, BOOK, value)


if __name__ == "__main__":
    unittest.main()
