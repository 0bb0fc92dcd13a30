"""The works that go all the way down to the numbers: a kind tells what is done with these."""

from nestarray.checks import checked_number
from nestarray.refusals import ShapeRefusal
from nestarray.values import array_of, extents_of, is_number, parts_of, product_of, rank_of
from nestarray.works import with_numbers


def pervaded_alone(kind, value):
    """The value with every number replaced by what the kind makes of it."""
    return with_numbers(value, lambda number: made_of_one(kind, number))


def made_of_one(kind, number):
    if kind == 0:
        return -number
    if kind == 1:
        return abs(number)
    return sign_of(number)


def sign_of(number):
    if number == 0:
        return 0
    return 1 if number > 0 else -1


def pervaded(kind, one, other):
    """What the kind makes of two values that aren't deep, pair by pair of their numbers."""
    if is_number(one) and is_number(other):
        return made_of_two(kind, one, other)
    extents = shared_extents(one, other)
    count = product_of(extents)
    ones = spread_parts(one, count)
    others = spread_parts(other, count)
    return array_of(extents, [pervaded(kind, first, second) for first, second in zip(ones, others)])


def made_of_two(kind, one, other):
    if kind == 0:
        return checked_number(one + other)
    if kind == 1:
        return checked_number(one - other)
    if kind == 2:
        return checked_number(one * other)
    if kind == 3:
        return min(one, other)
    return max(one, other)


def shared_extents(one, other):
    """The shape of the one whose rank isn't 0; if neither's is, they have to have one shape."""
    if rank_of(one) == 0:
        return extents_of(other)
    if rank_of(other) != 0 and extents_of(one) != extents_of(other):
        raise ShapeRefusal()
    return extents_of(one)


def spread_parts(value, count):
    """As many items as are counted: the one item of a value of rank 0 stands for each of them."""
    parts = parts_of(value)
    return parts * count if rank_of(value) == 0 else parts
