"""Runs: items parted into vectors, and vectors joined again."""

from nestarray.checks import vector_parts
from nestarray.refusals import DomainRefusal, RankRefusal, ShapeRefusal
from nestarray.values import is_number, joined_parts, rank_of, vector_of


def sums_of(lengths):
    """0, and for each length the sum of those up to it: where the runs of these lengths begin and end."""
    sums = [0]
    for length in lengths:
        sums.append(sums[-1] + length)
    return sums


def parted(parts, sums):
    """The vectors of the items between each sum and the next one."""
    return [vector_of(parts[start:end]) for start, end in zip(sums, sums[1:])]


def packed(value, lengths):
    """The vector of vectors of these lengths with the items of a vector."""
    parts = vector_parts(value)
    if any([length < 0 for length in lengths]):
        raise DomainRefusal()
    if sum(lengths) != len(parts):
        raise ShapeRefusal()
    return vector_of(parted(parts, sums_of(lengths)))


def razed(value):
    """The vector of all items of a vector's items, which have to be numbers and vectors."""
    parts = vector_parts(value)
    if any([not is_number(part) and rank_of(part) != 1 for part in parts]):
        raise RankRefusal()
    return vector_of(joined_parts(parts))
