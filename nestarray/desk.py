"""The calls: each takes texts and numbers, and gives back the list of numbers that is answered.

Where a work is handed several things, they are reckoned from left to right: the first refusal counts.
"""

from nestarray.cells import mixed, split_up
from nestarray.checks import checked_kind
from nestarray.counted import with_counts
from nestarray.flattening import flat_lists, from_flat_lists
from nestarray.itemwise import with_each
from nestarray.ordering import are_alike, are_same, first_of_two, in_order
from nestarray.paths import picked, replaced, steps_of
from nestarray.pervading import pervaded, pervaded_alone
from nestarray.reading import check_length, look_at
from nestarray.refusals import Refusal
from nestarray.runs import packed, razed
from nestarray.tokens import fault_position, tokens_of
from nestarray.values import depth_of, extents_of, leaves_of, rank_of, size_of
from nestarray.works import come_out, disclosed, enclosed, raveled, skeleton_of
from nestarray.writing import text_of


def where(v):
    """0 if v is in form, else one more than the position where it isn't any more."""
    return answered(lambda: where_answer(v))


def plain(v):
    """0, then v's text."""
    return answered(lambda: [0] + text_of(look_at(v)))


def measure(v):
    """v's depth, then its rank, its size, and how many leaves it has."""
    return answered(lambda: measure_answer(look_at(v)))


def shape(v):
    """0, then v's extents."""
    return answered(lambda: [0] + extents_of(look_at(v)))


def leaves(v):
    """0, then v's leaves."""
    return answered(lambda: [0] + leaves_of(look_at(v)))


def skeleton(v):
    """0, then v with 0 for every number."""
    return answered(lambda: outcome_answer(skeleton_of(look_at(v))))


def enclose(v):
    """0, then the array of the empty shape whose item is v (if v is a number, v)."""
    return answered(lambda: outcome_answer(enclosed(look_at(v))))


def disclose(v):
    """0, then the item of v, whose rank has to be 0 (of a number it itself)."""
    return answered(lambda: outcome_answer(disclosed(look_at(v))))


def ravel(v):
    """0, then the vector of v's items."""
    return answered(lambda: outcome_answer(raveled(look_at(v))))


def same(v, w):
    """1 if v and w are the same value, else 0."""
    return answered(lambda: truth_answer(are_same(look_at(v), look_at(w))))


def like(v, w):
    """1 if v and w differ in their numbers at most, else 0."""
    return answered(lambda: truth_answer(are_alike(look_at(v), look_at(w))))


def order(v, w):
    """0 if v and w are the same, 1 if v is first, 2 if w is."""
    return answered(lambda: [first_of_two(look_at(v), look_at(w))])


def sort(v):
    """0, then the vector of the items of v, which has to be a vector, in order."""
    return answered(lambda: outcome_answer(in_order(look_at(v))))


def pick(v, path):
    """0, then the value to which the path leads from v on."""
    return answered(lambda: outcome_answer(picked(look_at(v), steps_of(path))))


def replace(v, path, w):
    """0, then v in which w stands where the path leads."""
    return answered(lambda: outcome_answer(replaced(look_at(v), steps_of(path), look_at(w))))


def each(k, v):
    """0, then the array of v's shape whose items are made of v's items, as the kind k tells."""
    return answered(lambda: outcome_answer(with_each(checked_kind(k, 0, 6), look_at(v))))


def pervade1(k, v):
    """0, then v with every number replaced by what the kind k makes of it."""
    return answered(lambda: outcome_answer(pervaded_alone(checked_kind(k, 0, 2), look_at(v))))


def pervade(k, v, w):
    """0, then what the kind k makes of v and w, all the way down to their numbers."""
    return answered(lambda: outcome_answer(pervaded(checked_kind(k, 0, 4), look_at(v), look_at(w))))


def split(v):
    """0, then the vector of the cells along the first axis of v, whose rank has to be 2 or more."""
    return answered(lambda: outcome_answer(split_up(look_at(v))))


def mix(v):
    """0, then the array whose cells along its first axis are the items of v, which has to be a vector."""
    return answered(lambda: outcome_answer(mixed(look_at(v))))


def pack(v, lengths):
    """0, then the vector of vectors of these lengths with the items of v, which has to be a vector."""
    return answered(lambda: outcome_answer(packed(look_at(v), lengths)))


def raze(v):
    """0, then the vector of all items of the items of v: vectors and numbers in a vector."""
    return answered(lambda: outcome_answer(razed(look_at(v))))


def flat(d, v):
    """0, then the d flat lists of v, each with its length before it."""
    return answered(lambda: [0] + with_counts(flat_lists(checked_kind(d, 1, 8), look_at(v))))


def unflat(d, lists):
    """0, then the value whose d flat lists are these, each with its length before it."""
    return answered(lambda: outcome_answer(from_flat_lists(checked_kind(d, 1, 8), lists)))


def answered(work):
    """What the work gives back, or the number alone of the refusal in which it ends."""
    try:
        return work()
    except Refusal as refusal:
        return [refusal.number]


def where_answer(text):
    check_length(text)
    position = fault_position(text, tokens_of(text))
    return [0 if position is None else position + 1]


def measure_answer(value):
    return [depth_of(value), rank_of(value), size_of(value), len(leaves_of(value))]


def outcome_answer(value):
    return [0] + text_of(come_out(value))


def truth_answer(truth):
    return [1 if truth else 0]
