"""Vectors of vectors kept as flat lists: the sums for each depth between, and at last the leaves."""

from nestarray.counted import counted_lists
from nestarray.refusals import DataRefusal, UnevenRefusal
from nestarray.runs import parted, sums_of
from nestarray.values import is_in_range, is_number, joined_parts, rank_of, vector_of


def flat_lists(count, value):
    """As many lists as are counted, which is how many vectors there have to be above each leaf."""
    lists = []
    reached = [value]
    for depth in range(count):
        if any([rank_of(one) != 1 for one in reached]):
            raise UnevenRefusal()
        if depth > 0:
            lists.append(sums_of([len(one.parts) for one in reached]))
        reached = joined_parts(reached)
    if not all([is_number(one) for one in reached]):
        raise UnevenRefusal()
    return lists + [reached]


def from_flat_lists(count, numbers):
    """The value whose flat lists the numbers tell, each with its length before it."""
    lists = counted_lists(numbers)
    if lists is None or len(lists) != count:
        raise DataRefusal()
    parts = lists.pop()
    if not all([is_in_range(number) for number in parts]):
        raise DataRefusal()
    for sums in reversed(lists):
        if not are_sums(sums, len(parts)):
            raise DataRefusal()
        parts = parted(parts, sums)
    return vector_of(parts)


def are_sums(numbers, total):
    """Whether the numbers go from 0 to the total, never down."""
    if len(numbers) == 0 or numbers[0] != 0 or numbers[-1] != total:
        return False
    return all([one <= other for one, other in zip(numbers, numbers[1:])])
