"""A text is looked at: its value, or the first refusal."""

from nestarray.checks import checked_number
from nestarray.refusals import FormRefusal, LimitRefusal, LongRefusal, ShapeRefusal
from nestarray.tokens import CLOSING, COLON, MINUS, OPENING, SIGNS, ZERO
from nestarray.tokens import digits_start, fault_position, tokens_of
from nestarray.values import array_of, is_shape, is_within_limits, product_of

LONGEST_TEXT = 8192


def look_at(text):
    """The value that a text tells."""
    check_length(text)
    tokens = tokens_of(text)
    if fault_position(text, tokens) is not None:
        raise FormRefusal()
    check_numbers(text, tokens)
    value = value_told(text, tokens)
    if not is_within_limits(value):
        raise LimitRefusal()
    return value


def check_length(text):
    if len(text) > LONGEST_TEXT:
        raise LongRefusal()


def check_numbers(text, tokens):
    for start, end in tokens:
        if text[start] not in SIGNS:
            checked_number(number_told(text, start, end))


def number_told(text, start, end):
    """The number of a token. Python's own int refuses digits beyond some thousands, so it's a loop."""
    number = 0
    for position in range(digits_start(text, start), end):
        number = number * 10 + text[position] - ZERO
    return -number if text[start] == MINUS else number


def value_told(text, tokens):
    """The value of tokens in form.

    The lists hold what is begun and not ended: for each array that's not closed its extents and,
    behind its colon, its items. So what a token tells always goes into the last list.
    """
    lists = [[]]
    for start, end in tokens:
        byte = text[start]
        if byte == OPENING or byte == COLON:
            lists.append([])
        elif byte == CLOSING:
            parts = lists.pop()
            extents = lists.pop()
            lists[-1].append(array_told(extents, parts))
        else:
            lists[-1].append(number_told(text, start, end))
    return lists[0][0]


def array_told(extents, parts):
    if not is_shape(extents) or product_of(extents) != len(parts):
        raise ShapeRefusal()
    return array_of(extents, parts)
