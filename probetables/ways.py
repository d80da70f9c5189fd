"""Ways of moving keys so that one is deleted without a mark, and slots to look at before one is emptied."""

from probetables.books import check_family, steps_in, tries_by_step
from probetables.checks import check_key, check_size, check_slot, check_slots, check_table, is_below
from probetables.errors import BadNumber
from probetables.places import keys_passing, moved, replaced, require_there


def fewest_moves(book, table, key):
    """The number of moves of a shortest way that deletes a key."""
    check_standing(book, table, key)
    way, _ = shortest_ways(book, table, key)
    return len(way) - 1


def short_way(book, table, key):
    """The least of the shortest ways that delete a key."""
    check_standing(book, table, key)
    way, _ = shortest_ways(book, table, key)
    return way


def count_short_ways(book, table, key):
    """The number of the shortest ways that delete a key."""
    check_standing(book, table, key)
    _, many = shortest_ways(book, table, key)
    return many


def shows_way(book, table, key, value):
    """Whether a value is a way that deletes a key, a shortest one or not."""
    check_standing(book, table, key)
    hole = table.index(key)
    if not isinstance(value, tuple) or not all(is_below(slot, len(table)) for slot in value):
        return False
    if value[:1] != (hole,):
        return False
    left = replaced(table, hole, None)
    for slot in value[1:]:
        if left[slot] not in keys_passing(book, left, hole):
            return False
        left = moved(left, slot, hole)
        hole = slot
    return not keys_passing(book, left, hole)


def suspects(size, family, filled, slot):
    """The other filled slots at which a key can stand that passes a slot of a right table."""
    check_size(size)
    check_family(family)
    check_slots(size, filled)
    check_slot(size, slot)
    if slot not in filled:
        raise BadNumber("the slot is none of the filled ones")
    return tuple([other for other in filled if other != slot and can_pass(size, family, filled, other, slot)])


def check_standing(book, table, key):
    """Raise the error for an invalid book, table or key, then NotThere for a key that is not in the table."""
    check_table(book, table)
    check_key(book, key)
    require_there(table, key)


def shortest_ways(book, table, key):
    """The least of the shortest ways that delete a key, and the number of them, without checks."""
    hole = table.index(key)
    # Each table so many moves further, with the least way to it and the number of ways.
    reached = {replaced(table, hole, None): ((hole,), 1)}
    ended = ended_ways(book, reached)
    while not ended:
        # A key is only moved to an earlier one of its tries, so this comes to an end.
        reached = reached_next(book, reached)
        ended = ended_ways(book, reached)
    return min([way for way, _ in ended]), sum([many for _, many in ended])


def ended_ways(book, reached):
    """The ways, each with the number of those to the same table, after which no key passes the hole."""
    return [(way, many) for left, (way, many) in reached.items() if not keys_passing(book, left, way[-1])]


def reached_next(book, reached):
    """The tables one move further than some, each with the least way to it and the number of ways."""
    further = {}
    for left, (way, many) in reached.items():
        # All ways to a table have the same hole: the one empty slot that was not so at first.
        hole = way[-1]
        for key in keys_passing(book, left, hole):
            slot = left.index(key)
            grown = moved(left, slot, hole)
            least, others = further.get(grown, ((*way, slot), 0))
            further[grown] = (min(least, (*way, slot)), others + many)
    return further


def can_pass(size, family, filled, other, slot):
    """Whether a key of a family that passes a slot can stand at another one if just these are filled."""
    if family == "any":
        # A key that tries the slot first and the other one next passes no empty slot.
        return True
    orders = [tries_by_step(size, home, step) for home in filled for step in steps_in(size, family)]
    passed = [tries[:tries.index(other)] for tries in orders]
    return any([slot in slots and all([each in filled for each in slots]) for slots in passed])
