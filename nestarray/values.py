"""Values: a number is an int, an array is a NestedArray; what can be asked of them."""

LARGEST_NUMBER = 1000000000000000000
MOST_EXTENTS = 4
LARGEST_PRODUCT = 256
LARGEST_DEPTH = 8
LARGEST_SIZE = 512


class NestedArray:
    """An array: its extents, and its items row after row.

    Depth and size are reckoned from those of the items when the array is made: a text may tell
    arrays deeper within one another than calls may go, and these too are asked for both.
    """

    def __init__(self, extents, parts):
        self.extents = extents
        self.parts = parts
        self.depth = 1 + max([depth_of(part) for part in parts], default=0)
        self.size = 1 + sum([size_of(part) for part in parts])


def array_of(extents, parts):
    """The value of this shape with these items: of the empty shape a number is that number."""
    if len(extents) == 0 and is_number(parts[0]):
        return parts[0]
    return NestedArray(list(extents), list(parts))


def vector_of(parts):
    return array_of([len(parts)], parts)


def is_number(value):
    return isinstance(value, int)


def extents_of(value):
    return [] if is_number(value) else list(value.extents)


def parts_of(value):
    """The items of a value: a number counts as its own one item."""
    return [value] if is_number(value) else list(value.parts)


def joined_parts(values):
    """The items of all the values, in order."""
    parts = []
    for value in values:
        parts.extend(parts_of(value))
    return parts


def rank_of(value):
    return len(extents_of(value))


def depth_of(value):
    return 0 if is_number(value) else value.depth


def size_of(value):
    return 1 if is_number(value) else value.size


def leaves_of(value):
    """All numbers in a value that isn't deep, in order."""
    if is_number(value):
        return [value]
    found = []
    for part in value.parts:
        found.extend(leaves_of(part))
    return found


def product_of(numbers):
    product = 1
    for number in numbers:
        product *= number
    return product


def is_shape(extents):
    """Whether extents, none of them below 0, are the shape of an array."""
    if len(extents) > MOST_EXTENTS:
        return False
    return product_of([extent for extent in extents if extent != 0]) <= LARGEST_PRODUCT


def is_in_range(number):
    return abs(number) <= LARGEST_NUMBER


def is_within_limits(value):
    return depth_of(value) <= LARGEST_DEPTH and size_of(value) <= LARGEST_SIZE
