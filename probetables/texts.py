"""Texts of books and tables."""

from probetables.checks import MARK, check_book, check_table, check_text
from probetables.errors import BadBook, BadTable, InvalidText

FIGURES = "01234567"


def write_book(book):
    """The text of a book: the figures of its tries, one space between two keys."""
    check_book(book)
    return " ".join(["".join([FIGURES[slot] for slot in tries]) for tries in book])


def read_book(text):
    """The book of a text."""
    check_text(text)
    book = tuple([tuple([number_of(sign) for sign in part]) for part in text.split(" ")])
    try:
        check_book(book)
    except BadBook:
        raise InvalidText("no text of a book") from None
    return book


def write_table(book, table):
    """The text of a table: ., x or the figure of the key for each slot."""
    check_table(book, table)
    return "".join([sign_of(item) for item in table])


def read_table(book, text):
    """The table for a book of a text."""
    check_book(book)
    check_text(text)
    table = tuple([item_of(sign) for sign in text])
    try:
        check_table(book, table)
    except BadTable:
        raise InvalidText("no text of a table for the book") from None
    return table


def number_of(sign):
    """The number of a figure; -1, which is no slot and no key, for any other sign."""
    return FIGURES.find(sign)


def sign_of(item):
    """The sign of an item of a table."""
    if item is None:
        return "."
    return "x" if item == MARK else FIGURES[item]


def item_of(sign):
    """The item of a table that a sign stands for."""
    if sign == ".":
        return None
    return MARK if sign == "x" else number_of(sign)
