import unittest
from itertools import permutations
from math import gcd

from helpers import ANY_VALUES, ErrorCase
from probetables.books import families, in_family, linear, stepped
from probetables.errors import BadBook, BadFamily, BadNumber, BadSize


def by_hand(size, home, step):
    slots = [home]
    while len(slots) < size:
        slots.append((slots[-1] + step) % size)
    return tuple(slots)


def valid_steps(size):
    return [1] + [step for step in range(2, size) if gcd(step, size) == 1]


class Example(ErrorCase):
    def test_example_of_the_interface(self):
        self.assertEqual(
            [linear(5, 3), stepped(5, 1, 2), families(), in_family((linear(5, 0), stepped(5, 1, 2)), "linear"),
             in_family((stepped(5, 1, 2),), "stepped")],
            [(3, 4, 0, 1, 2), (1, 3, 0, 2, 4), ("any", "linear", "stepped"), False, True])
        self.refused(BadNumber, stepped, 6, 0, 2)


class Tries(ErrorCase):
    def test_linear_and_stepped_of_every_size(self):
        for size in range(1, 9):
            for home in range(size):
                self.assertEqual(linear(size, home), by_hand(size, home, 1))
                for step in valid_steps(size):
                    self.assertEqual(stepped(size, home, step), by_hand(size, home, step))

    def test_edges_of_sizes(self):
        self.assertEqual(linear(1, 0), (0,))
        self.assertEqual(stepped(1, 0, 1), (0,))
        self.assertEqual(stepped(2, 1, 1), (1, 0))
        self.assertEqual(linear(8, 7), (7, 0, 1, 2, 3, 4, 5, 6))
        self.assertEqual(stepped(8, 1, 5), (1, 6, 3, 0, 5, 2, 7, 4))
        self.assertEqual(stepped(8, 0, 7), (0, 7, 6, 5, 4, 3, 2, 1))

    def test_steps_that_are_none(self):
        for size in range(1, 9):
            for step in range(-3, 20):
                if step not in valid_steps(size):
                    self.refused(BadNumber, stepped, size, 0, step)

    def test_homes_that_are_no_slots(self):
        for size in range(1, 9):
            for home in (-1, size, size + 1, -size):
                self.refused(BadNumber, linear, size, home)
                self.refused(BadNumber, stepped, size, home, 1)

    def test_wrong_kinds(self):
        for value in (*ANY_VALUES, 0):
            self.refused(BadSize, linear, value, 0)
            self.refused(BadSize, stepped, value, 0, 1)
        for value in ANY_VALUES:
            self.refused(BadNumber, linear, 5, value)
            self.refused(BadNumber, stepped, 5, value, 1)
            self.refused(BadNumber, stepped, 5, 0, value)

    def test_truth_values_are_no_numbers(self):
        self.refused(BadSize, linear, True, 0)
        self.refused(BadNumber, linear, 2, True)
        self.refused(BadNumber, linear, 2, False)
        self.refused(BadNumber, stepped, 5, 0, True)
        self.refused(BadNumber, stepped, 1, 0, True)

    def test_first_error_is_that_of_the_first_argument(self):
        self.refused(BadSize, linear, 0, -1)
        self.refused(BadSize, stepped, 9, -1, 0)
        self.refused(BadSize, stepped, 9, 0, 0)


class Families(ErrorCase):
    def test_names(self):
        self.assertEqual(families(), ("any", "linear", "stepped"))

    def test_every_tries_of_sizes_up_to_five(self):
        for size in range(1, 6):
            lines = [by_hand(size, home, 1) for home in range(size)]
            steps = [by_hand(size, home, step) for home in range(size) for step in valid_steps(size)]
            for tries in permutations(range(size)):
                self.assertIs(in_family((tries,), "linear"), tries in lines)
                self.assertIs(in_family((tries,), "stepped"), tries in steps)
                self.assertIs(in_family((tries,), "any"), True)

    def test_all_tries_count(self):
        mixed = (linear(8, 0), stepped(8, 3, 5), stepped(8, 1, 7))
        self.assertEqual([in_family(mixed, family) for family in families()], [True, False, True])
        odd = mixed + ((1, 0, 2, 3, 4, 5, 6, 7),)
        self.assertEqual([in_family(odd, family) for family in families()], [True, False, False])
        self.assertIs(in_family((linear(8, 2),) * 8, "linear"), True)

    def test_no_family(self):
        for value in ANY_VALUES:
            if value != "any":
                self.refused(BadFamily, in_family, ((0, 1),), value)
        self.refused(BadFamily, in_family, ((0, 1),), 0)

    def test_first_error_is_that_of_the_book(self):
        self.refused_at(BadBook, None, in_family, (), "all")
        self.refused_at(BadBook, 0, in_family, ((1,),), "all")


class Books(ErrorCase):
    """Which values are books, seen through in_family."""

    def refused_book(self, index, book):
        self.refused_at(BadBook, index, in_family, book, "any")

    def test_largest_and_smallest(self):
        self.assertIs(in_family(((0,),), "any"), True)
        self.assertIs(in_family(((0,),) * 8, "any"), True)
        self.assertIs(in_family((tuple(range(8)),) * 8, "any"), True)

    def test_no_tuple_of_one_to_eight_items(self):
        for value in ANY_VALUES:
            if not isinstance(value, tuple) or not value:
                self.refused_book(None, value)
        self.refused_book(None, ())
        self.refused_book(None, ((0, 1),) * 9)
        self.refused_book(None, (None,) * 9)
        self.refused_book(None, [(0, 1)])

    def test_items_that_are_no_orders(self):
        for value in ANY_VALUES:
            if value != (0,) or value == (True,):
                self.refused_book(0, (value,))
                self.refused_book(1, ((0,), value))
        for tries in ((0, 0), (0, 2), (1, 2), (-1, 0), (0, True), (False, 1), (0, None), (0, "1"), [0, 1], (0, (1,))):
            self.refused_book(0, (tries,))
            self.refused_book(2, ((0, 1), (1, 0), tries, ()))
        self.refused_book(0, (tuple(range(9)),))
        self.refused_book(0, ((),))

    def test_truth_values_in_tries(self):
        self.refused_book(0, ((False,),))
        self.refused_book(1, ((0, 1), (False, True)))

    def test_items_of_another_size_than_the_first(self):
        self.refused_book(1, ((0, 1), (0, 1, 2), (0, 1)))
        self.refused_book(2, ((0, 1, 2), (2, 1, 0), (0, 1), ()))
        self.refused_book(0, ((0, 0), (0, 1, 2)))


if __name__ == "__main__":
    unittest.main()
