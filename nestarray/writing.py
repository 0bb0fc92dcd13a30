"""The text of a value, as its bytes."""

from nestarray.values import is_number


def text_of(value):
    return [ord(sign) for sign in written(value)]


def written(value):
    if is_number(value):
        return written_number(value)
    extents = " ".join([str(extent) for extent in value.extents])
    parts = "".join([" " + written(part) for part in value.parts])
    return "[" + extents + ":" + parts + "]"


def written_number(number):
    digits = str(abs(number))
    return "_" + digits if number < 0 else digits
