"""Checks of arguments: each raises the error that the document names for an invalid one."""

from probetables.errors import BadBook, BadKey, BadNumber, BadRule, BadSize, BadSlots, BadTable, NotText

MOST_SLOTS = 8
MOST_KEYS = 8
MARK = "gone"


def is_number(value):
    """Whether a value is an integer; True and False are none here."""
    return isinstance(value, int) and not isinstance(value, bool)


def is_below(value, limit):
    """Whether a value is an integer from 0 to limit - 1, as slots and keys are."""
    return is_number(value) and 0 <= value < limit


def is_size(value):
    """Whether a value is the size of a table."""
    return is_number(value) and 1 <= value <= MOST_SLOTS


def is_tries(value):
    """Whether a value is a tuple of all slots of a size, in some order."""
    return (
        isinstance(value, tuple)
        and is_size(len(value))
        and all(is_below(slot, len(value)) for slot in value)
        and sorted(value) == list(range(len(value)))
    )


def check_size(size):
    """Raise BadSize for a value that is no size."""
    if not is_size(size):
        raise BadSize("a size is an integer from 1 to 8")


def check_slot(size, slot):
    """Raise BadNumber for a value that is no slot of a size."""
    if not is_below(slot, size):
        raise BadNumber("a slot is an integer from 0 to size - 1")


def check_slots(size, slots):
    """Raise BadSlots for a value that is no ascending tuple of slots of a size, none of them twice."""
    if not isinstance(slots, tuple) or not all(is_below(slot, size) for slot in slots):
        raise BadSlots("no tuple of slots")
    if list(slots) != sorted(set(slots)):
        raise BadSlots("the slots do not ascend")


def check_book(book):
    """Raise BadBook for a value that is no book."""
    if not isinstance(book, tuple) or not 1 <= len(book) <= MOST_KEYS:
        raise BadBook(None)
    for at, tries in enumerate(book):
        if not is_tries(tries) or len(tries) != len(book[0]):
            raise BadBook(at)


def check_table(book, table):
    """Raise BadBook for a value that is no book, then BadTable for one that is no table for it."""
    check_book(book)
    if not isinstance(table, tuple) or len(table) != len(book[0]):
        raise BadTable(None)
    for at, item in enumerate(table):
        if item is None or item == MARK:
            continue
        if not is_below(item, len(book)) or item in table[:at]:
            raise BadTable(at)


def check_key(book, key):
    """Raise BadKey for a value that is no key of a book."""
    if not is_below(key, len(book)):
        raise BadKey("a key is a place in the book, from 0")


def check_rule(rule, rules):
    """Raise BadRule for a value that is none of some rules."""
    if rule not in rules:
        raise BadRule("no such rule")


def check_text(text):
    """Raise NotText for a value that is no string."""
    if not isinstance(text, str):
        raise NotText("a text is a string")
