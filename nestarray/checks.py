"""What kinds, numbers and values are asked ahead of a work or in it: each is given back, or refused."""

from nestarray.refusals import BigRefusal, KindRefusal, RankRefusal
from nestarray.values import is_in_range, parts_of, rank_of


def checked_kind(kind, least, greatest):
    """The kind itself, if it is one."""
    if kind < least or kind > greatest:
        raise KindRefusal()
    return kind


def checked_number(number):
    """The number itself, if it isn't too far from 0."""
    if not is_in_range(number):
        raise BigRefusal()
    return number


def vector_parts(value):
    """The items of a value that has to be a vector."""
    if rank_of(value) != 1:
        raise RankRefusal()
    return parts_of(value)
