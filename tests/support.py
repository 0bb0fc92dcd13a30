"""What the tests share: how a call is asked, and texts that several tests hand over."""

import unittest

LONG, FORM, BIG, SHAPE, LIMIT, RANK, INDEX, PATH, ATOM = -1, -2, -3, -4, -5, -6, -7, -8, -9
UNEVEN, DATA, KIND, DOMAIN = -10, -11, -12, -13

TOP = 10 ** 18


def bytes_of(text):
    return list(text.encode("ascii"))


class UntouchedList(list):
    """A list that fails on every try to change it, even one that is taken back."""

    def refuse(self, *args, **kwargs):
        raise AssertionError("what was handed in was changed")

    append = clear = extend = insert = pop = remove = reverse = sort = refuse
    __setitem__ = __delitem__ = __iadd__ = __imul__ = refuse


def vector(parts):
    """The text of a vector with items of these texts."""
    return "[%d:%s]" % (len(parts), "".join(" " + part for part in parts))


def text_in(answer):
    """The text of the value that an answer brings."""
    return bytes(answer[1:]).decode("ascii")


def chain(depth):
    """The text of a value of this depth, and of a size of one more: vectors within one another."""
    return "[1: " * depth + "7" + "]" * depth


def sized(size):
    """The text of a value of this size, from 260 to 515: two vectors in a vector."""
    return vector([vector(["1"] * 256), vector(["_2"] * (size - 259))])


# One text for each refusal of a text that is looked at, and two at once in both places.
REFUSED = (
    ("0" * 8193, LONG),
    (" " * 8192 + "7", LONG),
    ("@" * 8193, LONG),
    ("1" * 8193, LONG),
    ("[2: 1]" + " " * 8187, LONG),
    (chain(9) + " " * 8192, LONG),
    ("", FORM),
    ("[2: 1 2", FORM),
    ("[_1: 1]", FORM),
    ("[_1000000000000000000:]", FORM),
    ("[_1000000000000000001:]", FORM),
    ("1000000000000000001 2", FORM),
    ("@ 1000000000000000001", FORM),
    ("[2: 1] 5", FORM),
    ("[2: 1] 05", FORM),
    (chain(9) + "]", FORM),
    ("1000000000000000001", BIG),
    ("_1000000000000000001", BIG),
    ("9" * 19, BIG),
    ("1" + "0" * 19, BIG),
    ("9" * 8192, BIG),
    ("_" + "9" * 8191, BIG),
    ("[1000000000000000001:]", BIG),
    ("[0 1000000000000000001:]", BIG),
    ("[1: 1000000000000000001]", BIG),
    ("[2: 1 _1000000000000000001]", BIG),
    ("[1: [2: 5] 1000000000000000001]", BIG),
    ("[2: [5: 5] _1000000000000000001]", BIG),
    ("[1: " * 9 + "1000000000000000001" + "]" * 9, BIG),
    ("[1000000000000000000:]", SHAPE),
    ("[0 1000000000000000000:]", SHAPE),
    ("[1: ]", SHAPE),
    ("[1: 1 2]", SHAPE),
    ("[2: 1]", SHAPE),
    ("[2 2: 1 2 3]", SHAPE),
    ("[2 2: 1 2 3 4 5]", SHAPE),
    ("[0: 1]", SHAPE),
    ("[3 0: 1 2 3]", SHAPE),
    ("[:]", SHAPE),
    ("[: 1 2]", SHAPE),
    ("[: [0:] [0:]]", SHAPE),
    ("[1 1 1 1 1: 5]", SHAPE),
    ("[0 0 0 0 0:]", SHAPE),
    ("[" + "1 " * 4000 + ": 5]", SHAPE),
    ("[257 0:]", SHAPE),
    ("[0 257:]", SHAPE),
    ("[2 0 129:]", SHAPE),
    ("[257:" + " 1" * 257 + "]", SHAPE),
    ("[2 3: 1 [0: 4] 3 4 5 6]", SHAPE),
    ("[1: " * 9 + "[0: 1]" + "]" * 9, SHAPE),
    ("[2: " + chain(9) + "]", SHAPE),
    (chain(9), LIMIT),
    ("[1: " * 8 + "[0:]" + "]" * 8, LIMIT),
    ("[: " * 8 + "[0:]" + "]" * 8, LIMIT),
    ("[2: 1 " + chain(8) + "]", LIMIT),
    (sized(513), LIMIT),
    (vector([vector(["[0:]"] * 255)] * 2), LIMIT),
    ("[1:" * 2047 + "5" + "]" * 2047, LIMIT),
    ("[:" * 2729 + "[0:]" + "]" * 2729, LIMIT),
)


# A text for each refusal of a text that is looked at, in the order of the refusals.
FIRST_REFUSED = tuple(next(pair for pair in REFUSED if pair[1] == refusal)
                      for refusal in (LONG, FORM, BIG, SHAPE, LIMIT))


def handed_over(asked, kind=list):
    """What is handed to a call for a text, or for a tuple of texts, lists and numbers."""
    if not isinstance(asked, tuple):
        asked = (asked,)
    asked = [bytes_of(one) if isinstance(one, str) else one for one in asked]
    return [kind(one) if isinstance(one, list) else one for one in asked]


class CallCase(unittest.TestCase):
    """Here asked is what a call is asked: its one text, or a tuple of texts, lists and numbers."""

    def ask(self, call, asked):
        """The answer: asked twice, and what is handed in has to stay as it is."""
        handed = handed_over(asked, UntouchedList)
        first = call(*handed)
        again = call(*handed_over(asked))
        self.assertEqual(handed, handed_over(asked))
        self.assertEqual(first, again)
        self.assertIs(type(first), list)
        self.assertEqual([number for number in first if type(number) is not int], [])
        return first

    def assert_answer(self, call, asked, answer):
        with self.subTest(call=call.__name__, asked=repr(asked)[:120]):
            self.assertEqual(self.ask(call, asked), answer)

    def assert_value(self, call, asked, told):
        self.assert_answer(call, asked, [0] + bytes_of(told))

    def assert_looks_at_text(self, call, before=(), behind=()):
        """The call refuses what every text that is looked at is refused for, and in that order.

        The text is handed over between what stands before it and what stands behind it.
        """
        for text, refusal in REFUSED:
            self.assert_answer(call, before + (text,) + behind, [refusal])

    def assert_keeps_nothing(self, call, asked, between=("[2: 1", "[1: [0 3:]]")):
        """An answer is a list of its own, and what was asked between two calls doesn't matter."""
        first = call(*handed_over(asked))
        kept = list(first)
        first.append(99)
        for other in between:
            call(*handed_over(other))
        self.assertEqual(call(*handed_over(asked)), kept)
