"""Tries of keys, books of tries, and families of tries."""

from math import gcd

from probetables.checks import check_book, check_size, check_slot, is_number
from probetables.errors import BadFamily, BadNumber

FAMILIES = ("any", "linear", "stepped")


def linear(size, home):
    """The slots from a home on, one behind the other."""
    check_size(size)
    check_slot(size, home)
    return tries_by_step(size, home, 1)


def stepped(size, home, step):
    """The slots from a home on, each one a step behind the one before."""
    check_size(size)
    check_slot(size, home)
    if not is_number(step) or step not in steps_of(size):
        raise BadNumber("a step is 1, or below the size and without a common divisor with it")
    return tries_by_step(size, home, step)


def families():
    """The ascending tuple of the names of the families."""
    return FAMILIES


def in_family(book, family):
    """Whether all tries of a book are of a family."""
    check_book(book)
    check_family(family)
    return all(is_of_family(tries, family) for tries in book)


def check_family(family):
    """Raise BadFamily for a value that is no family."""
    if family not in FAMILIES:
        raise BadFamily("no such family")


def steps_of(size):
    """The ascending tuple of the steps for a size."""
    # Counting up to the size itself gives size 1 its step 1; larger sizes divide themselves.
    return tuple([step for step in range(1, size + 1) if gcd(step, size) == 1])


def steps_in(size, family):
    """The ascending tuple of the steps of the tries of a family, "linear" or "stepped"."""
    return steps_of(size) if family == "stepped" else (1,)


def tries_by_step(size, home, step):
    """The slots from a home on by a step, without checks."""
    return tuple([(home + step * place) % size for place in range(size)])


def is_of_family(tries, family):
    """Whether tries are of a family, without checks."""
    if family == "any":
        return True
    size = len(tries)
    return tries in [tries_by_step(size, tries[0], step) for step in steps_in(size, family)]
