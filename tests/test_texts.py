import unittest
from itertools import product

from helpers import ANY_VALUES, ErrorCase, books, tables
from probetables.books import linear, stepped
from probetables.errors import BadBook, BadTable, InvalidText, NotText
from probetables.texts import read_book, read_table, write_book, write_table

BOOK = ((0, 1, 2), (1, 2, 0))
NO_STRINGS = [value for value in ANY_VALUES if not isinstance(value, str)]


def naive_book_text(book):
    return " ".join("".join(map(str, tries)) for tries in book)


def naive_table_text(table):
    return "".join({None: ".", "gone": "x"}.get(item, str(item)) for item in table)


def strings(signs, longest):
    return ["".join(chosen) for length in range(longest + 1) for chosen in product(signs, repeat=length)]


class Example(ErrorCase):
    def test_example_of_the_interface(self):
        self.assertEqual(
            [write_book(((0, 1, 2), (1, 2, 0))), read_book("01 10"),
             write_table(((0, 1, 2), (1, 2, 0)), (None, "gone", 1)), read_table(((0, 1, 2),), "x0.")],
            ["012 120", ((0, 1), (1, 0)), ".x1", ("gone", 0, None)])
        self.refused(InvalidText, read_table, ((0, 1, 2),), "x1.")


class BookTexts(ErrorCase):
    def there_and_back(self, book):
        text = write_book(book)
        self.assertEqual(text, naive_book_text(book))
        self.assertEqual(read_book(text), book)

    def test_books_of_every_size(self):
        for size, keys in ((1, 1), (1, 8), (2, 3), (3, 2), (3, 3)):
            for book in books(size, keys):
                self.there_and_back(book)
        for size in range(1, 9):
            self.there_and_back(tuple(linear(size, at % size) for at in range(8)))
        self.there_and_back(tuple(stepped(8, at, (1, 3, 5, 7)[at % 4]) for at in range(8)))
        self.assertEqual(write_book((linear(8, 6),)), "67012345")

    def test_which_short_strings_are_texts(self):
        texts = {}
        for size, most in ((1, 4), (2, 2), (3, 1)):
            for keys in range(1, most + 1):
                texts.update({naive_book_text(book): book for book in books(size, keys)})
        for text in strings("012 ", 7):
            if len(text) <= 5 or text.count(" ") == 3:
                if text in texts:
                    self.assertEqual(read_book(text), texts[text])
                else:
                    self.refused(InvalidText, read_book, text)

    def test_strings_that_are_nearly_texts(self):
        for text in (
                "", " ", "012 120 ", " 012 120", "012  120", "012,120", "012\n120", "012\t120", "012 120\n", "012 12",
                "012 1203", "012 122", "013", "123", "01 012", "0 0 0 0 0 0 0 0 0", "012345678", "12345678", "x12",
                "0.2", "01a", "+01", "-10", "0_1", "\u0660\u0661", "0\u00b9", "\uff10", "0\u00a00", "None", "(0, 1)",
                "0" * 5000, "0 " * 5000):
            self.refused(InvalidText, read_book, text)

    def test_no_strings(self):
        for value in NO_STRINGS:
            self.refused(NotText, read_book, value)

    def test_no_books(self):
        for value in ANY_VALUES:
            if value not in (((0, 1), (1, 0)), ):
                self.refused(BadBook, write_book, value)
        self.refused_at(BadBook, None, write_book, ((0,),) * 9)
        self.refused_at(BadBook, 1, write_book, ((0, 1), (0, 2)))
        self.refused_at(BadBook, 1, write_book, ((0, 1), (False, 1)))


class TableTexts(ErrorCase):
    def there_and_back(self, book, table):
        text = write_table(book, table)
        self.assertEqual(text, naive_table_text(table))
        self.assertEqual(read_table(book, text), table)

    def test_tables_of_every_size(self):
        for size, keys in ((1, 2), (2, 3), (3, 2), (4, 4)):
            book = tuple(linear(size, 0) for _ in range(keys))
            for table in tables(size, keys):
                self.there_and_back(book, table)
        book = tuple(linear(8, 0) for _ in range(8))
        self.there_and_back(book, (7, 6, 5, 4, 3, 2, 1, 0))
        self.there_and_back(book, ("gone",) * 8)
        self.there_and_back(book, (None,) * 8)
        self.there_and_back(book, (None, "gone", 7, None, 0, 3, "gone", "gone"))

    def test_which_short_strings_are_texts(self):
        for size, keys in ((1, 1), (2, 3), (3, 2)):
            book = tuple(linear(size, 0) for _ in range(keys))
            texts = {naive_table_text(table): table for table in tables(size, keys)}
            for text in strings(".x012 ", 4):
                if text in texts:
                    self.assertEqual(read_table(book, text), texts[text])
                else:
                    self.refused(InvalidText, read_table, book, text)

    def test_strings_that_are_nearly_texts(self):
        for text in (
                "", "...", "01", "01..", "012", "0 .", ".x0 ", " x0", "x0.\n", "00.", "11x", "x2.", "X0.", "gone",
                "o0.", "-0.", "0_1", "\u06600.", "\u00b91.", "0,1", "None", "9..", "8..", "." * 5000):
            if text != "...":
                self.refused(InvalidText, read_table, BOOK, text)
        self.assertEqual(read_table(BOOK, "..."), (None, None, None))

    def test_no_strings(self):
        for value in NO_STRINGS:
            self.refused(NotText, read_table, BOOK, value)
        self.refused(NotText, read_table, BOOK, (None, "gone", 1))
        self.refused(NotText, read_table, BOOK, [".", "x", "1"])

    def test_no_books_and_no_tables(self):
        for value in (*ANY_VALUES, (None,) * 2, (None,) * 4):
            self.refused_at(BadTable, None, write_table, BOOK, value)
        self.refused_at(BadTable, 1, write_table, BOOK, (0, 0, None))
        self.refused_at(BadTable, 2, write_table, BOOK, (0, "gone", True))
        self.refused_at(BadTable, 0, write_table, BOOK, ("x", "gone", None))
        self.refused_at(BadTable, 0, write_table, BOOK, (2, None, None))

    def test_first_error_is_that_of_the_book(self):
        for value in ANY_VALUES:
            if value != ((0, 1), (1, 0)):
                self.refused(BadBook, write_table, value, ())
                self.refused(BadBook, read_table, value, None)
                self.refused(BadBook, read_table, value, "?")


if __name__ == "__main__":
    unittest.main()
