"""A desk: a table that lines of text change and ask about."""

from probetables.checks import check_book, check_rule, check_text
from probetables.deletes import DELETE_RULES, delete
from probetables.errors import InvalidText, NothingToUndo
from probetables.inserts import insert
from probetables.tables import look_up, looked_at, lost_key
from probetables.texts import FIGURES, write_table

KEYED_WORDS = ("add", "cost", "drop", "find")


class Desk:
    """A table for a book, at first empty, from which keys are deleted by one rule."""

    def __init__(self, book, rule):
        check_book(book)
        check_rule(rule, DELETE_RULES)
        self.book = book
        self.rule = rule
        # All tables so far, the present one last.
        self.tables = [(None,) * len(book[0])]

    @property
    def table(self):
        """The table as it stands."""
        return self.tables[-1]

    def run(self, line):
        """The answer to a line; None for one that changes the table."""
        check_text(line)
        if line == "table":
            return write_table(self.book, self.table)
        if line == "lost":
            return shown(lost_key(self.book, self.table))
        word, key = read_keyed(self.book, line)
        if word == "find":
            return shown(look_up(self.book, self.table, key))
        if word == "cost":
            return shown(looked_at(self.book, self.table, key))
        if word == "add":
            left = insert(self.book, self.table, key, "stay")
        else:
            left = delete(self.book, self.table, key, self.rule)
        self.tables.append(left)
        return None

    def undo(self):
        """Take back the last line that changed the table."""
        if len(self.tables) == 1:
            raise NothingToUndo("no line has changed the table")
        self.tables.pop()


def read_keyed(book, line):
    """The word and the key of a line of these two."""
    word, _, figure = line.partition(" ")
    if word not in KEYED_WORDS or figure not in list(FIGURES[:len(book)]):
        raise InvalidText("no such line")
    return word, FIGURES.index(figure)


def shown(number):
    """The text of a number, or of None."""
    return "none" if number is None else str(number)
