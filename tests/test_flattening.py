"""Promises 23 and 24: flat and unflat."""

from nestarray.desk import flat, unflat
from tests.support import DATA, FIRST_REFUSED, KIND, LIMIT, TOP, UNEVEN, CallCase, chain, handed_over, sized, text_in
from tests.support import vector

DEPTHS = range(1, 9)
NO_DEPTHS = (0, -1, -2, -8, -TOP, 9, 10, 100, 2 ** 32, TOP)

# How deep, a value that fits it, and its flat lists.
FLAT = (
    (1, "[0:]", [[]]),
    (1, "[1: 5]", [[5]]),
    (1, "[3: 4 _5 6]", [[4, -5, 6]]),
    (1, "[2: %d _%d]" % (TOP, TOP), [[TOP, -TOP]]),
    (1, "[2: [: 7] [: [: 8]]]", [[7, 8]]),
    (2, "[3: [2: 4 5] [0:] [1: 6]]", [[0, 2, 2, 3], [4, 5, 6]]),
    (2, "[0:]", [[0], []]),
    (2, "[1: [0:]]", [[0, 0], []]),
    (2, "[3: [0:] [0:] [0:]]", [[0, 0, 0, 0], []]),
    (2, "[1: [1: 5]]", [[0, 1], [5]]),
    (2, "[3: [0:] [0:] [2: 1 2]]", [[0, 0, 0, 2], [1, 2]]),
    (2, "[2: [3: _1 _2 _3] [1: %d]]" % TOP, [[0, 3, 4], [-1, -2, -3, TOP]]),
    (3, "[0:]", [[0], [0], []]),
    (3, "[1: [0:]]", [[0, 0], [0], []]),
    (3, "[2: [0:] [0:]]", [[0, 0, 0], [0], []]),
    (3, "[1: [1: [0:]]]", [[0, 1], [0, 0], []]),
    (3, "[2: [1: [0:]] [0:]]", [[0, 1, 1], [0, 0], []]),
    (3, "[3: [2: [1: 1] [2: 2 3]] [0:] [3: [0:] [0:] [1: 4]]]", [[0, 2, 2, 5], [0, 1, 3, 3, 3, 4], [1, 2, 3, 4]]),
    (3, "[2: [0:] [1: [2: 7 8]]]", [[0, 0, 1], [0, 2], [7, 8]]),
    (4, "[2: [1: [2: [1: 1] [0:]]] [2: [0:] [1: [2: 2 3]]]]", [[0, 1, 3], [0, 2, 2, 3], [0, 1, 1, 3], [1, 2, 3]]),
    (4, "[2: [1: [0:]] [1: [1: [0:]]]]", [[0, 1, 2], [0, 0, 1], [0, 0], []]),
    (5, "[1: [1: [2: [0:] [1: [1: 9]]]]]", [[0, 1], [0, 2], [0, 0, 1], [0, 1], [9]]),
)

# A number of lists, and numbers that aren't the flat lists of any value at it.
NO_DATA = (
    # not just as many lists
    (1, []), (2, []), (8, []),
    (1, [1]), (1, [2, 5]), (1, [0, 0]), (1, [0, 5]), (1, [1, 5, 6]), (1, [1, 5, 0]), (1, [-1]), (1, [-1, 5]),
    (1, [TOP]), (1, [-TOP]), (1, [TOP, 5]), (1, [2, 0, 1, 1, 5]),
    (2, [1, 5]), (2, [1, 0]), (2, [2, 0, 1]), (2, [2, 0, 1, 2, 5]), (2, [2, 0, 1, 1]), (2, [2, 0, 1, -1]),
    (2, [1, 0, -1]), (2, [1, 0, 0, 0]), (2, [2, 0, 1, 1, 5, 0]), (2, [2, 0, 1, 1, 5, 7]), (2, [2, 0, 1, 1, 5, 1, 5]),
    (2, [-1, 1, 5]), (2, [TOP, 0]), (2, [2, 0, 0, TOP]), (3, [2, 0, 1, 1, 5]), (3, [1, 0, 1, 0]),
    (3, [1, 0, 1, 0, 0, 0]), (7, [1, 0] * 7 + [0]), (8, [1, 0] * 6 + [0]), (8, [1, 0] * 8 + [0]),
    # a list without numbers
    (2, [0, 0]), (2, [0, 1, 5]), (3, [0, 1, 0, 0]), (3, [1, 0, 0, 0]), (3, [2, 0, 0, 0, 0]),
    # not from 0 on
    (2, [1, 1, 1, 5]), (2, [1, 1, 0]), (2, [2, 1, 1, 1, 5]), (2, [2, -1, 1, 1, 5]), (2, [2, -1, 0, 0]),
    (2, [3, 1, 1, 2, 2, 5, 6]), (2, [2, TOP, TOP, 1, 5]), (2, [2, -TOP, 1, 1, 5]), (3, [2, 0, 1, 2, 1, 1, 1, 5]),
    (3, [2, 1, 1, 2, 0, 1, 1, 5]), (3, [1, 0, 1, 1, 1, 5]),
    # down somewhere
    (2, [3, 0, 2, 1, 1, 5]), (2, [4, 0, 2, 1, 2, 2, 5, 6]), (2, [3, 0, -1, 1, 1, 5]), (2, [4, 0, 1, 0, 1, 1, 5]),
    (2, [3, 0, TOP, 1, 1, 5]), (2, [3, 0, -TOP, 1, 1, 5]), (3, [4, 0, 2, 1, 2, 3, 0, 1, 1, 1, 5]),
    (3, [2, 0, 3, 4, 0, 2, 1, 2, 2, 5, 6]), (2, [2, 0, -1, 0]), (2, [5, 0, 2, 3, 1, 3, 3, 7, 8, 9]),
    # to another number than the next list has parts
    (2, [1, 0, 1, 5]), (2, [2, 0, 1, 0]), (2, [2, 0, 0, 1, 5]), (2, [2, 0, 2, 1, 5]), (2, [2, 0, 1, 2, 5, 6]),
    (2, [2, 0, TOP, 1, 5]), (3, [2, 0, 2, 2, 0, 1, 1, 5]), (3, [2, 0, 0, 2, 0, 1, 1, 5]),
    (3, [2, 0, 1, 2, 0, 1, 0]), (3, [2, 0, 1, 2, 0, 1, 2, 5, 6]), (3, [2, 0, 1, 1, 0, 0]), (3, [1, 0, 2, 0, 0, 0]),
    (3, [2, 0, 1, 3, 0, 1, 1, 1, 5]), (3, [2, 0, 2, 3, 0, 1, 2, 1, 5]),
    # numbers that aren't handed over
    (1, [1, TOP + 1]), (1, [1, -TOP - 1]), (2, [2, 0, 2, 2, 5, TOP + 1]), (2, [2, 0, 2, 2, -TOP - 1, 5]),
)


def told(lists):
    """The lists one after the other, each with its length before it."""
    numbers = []
    for one in lists:
        numbers += [len(one)] + one
    return numbers


def nested(depth, innermost):
    """The text of vectors within one another, and in the last of them what's told."""
    return "[1: " * depth + innermost + "]" * depth


class FlatTest(CallCase):

    def test_refusals_of_the_text(self):
        for depth in DEPTHS:
            self.assert_looks_at_text(flat, before=(depth,))

    def test_kind_stands_before_all_else(self):
        for depth in NO_DEPTHS:
            for text in ("5", "[0:]", "[2: 1 2]", "[2: 1 [1: 2]]", "[2 2: 1 2 3 4]", chain(8)):
                self.assert_answer(flat, (depth, text), [KIND])
            for text, refusal in FIRST_REFUSED:
                self.assert_answer(flat, (depth, text), [KIND])

    def test_nothing_is_kept(self):
        between = ((9, "[0:]"), (2, "[2: [1: 5] [1: 6]]"), (1, "[2: 1"), (3, "[0:]"), (2, "[1: 7]"))
        for asked in ((2, "[3: [2: 4 5] [0:] [1: 6]]"), (1, "[2: 1 2]"), (8, "[0:]"), (1, "[1: [0:]]"), (1, "[0:")):
            self.assert_keeps_nothing(flat, asked, between)

    def test_example(self):
        self.assert_answer(flat, (2, "[3: [2: 4 5] [0:] [1: 6]]"), [0, 4, 0, 2, 2, 3, 3, 4, 5, 6])

    def test_table(self):
        for depth, text, lists in FLAT:
            self.assert_answer(flat, (depth, text), [0] + told(lists))

    def test_every_depth(self):
        for depth in DEPTHS:
            self.assert_answer(flat, (depth, chain(depth)), [0] + told([[0, 1]] * (depth - 1) + [[7]]))
            self.assert_answer(flat, (depth, nested(depth - 1, "[3: 1 _2 3]")),
                               [0] + told(([[0, 1]] * (depth - 2) + [[0, 3]])[:depth - 1] + [[1, -2, 3]]))

    def test_vectors_without_items_at_each_depth(self):
        for depth in DEPTHS:
            for above in range(depth):
                # as many vectors within one another, and in the last of them one without items
                lists = ([[0, 1]] * (above - 1) + [[0, 0]])[:above] + [[0]] * depth
                lists = lists[:depth - 1] + [[]]
                self.assert_answer(flat, (depth, nested(above, "[0:]")), [0] + told(lists))

    def test_values_that_do_not_fit(self):
        for depth in DEPTHS:
            for text in ("5", "_%d" % TOP, "[: [0:]]", "[: %s]" % chain(depth - 1), "[0 3:]", "[3 0:]", "[1 1: 5]",
                         "[: 7]", "[2 2: 1 2 3 4]"):
                self.assert_answer(flat, (depth, text), [UNEVEN])
            for other in range(9):
                if other != depth:
                    self.assert_answer(flat, (depth, chain(other)), [UNEVEN])
            for part in ("[: [0:]]", "[: [1: 7]]", "[0 3:]", "[1 1: 7]", "[2 0:]"):
                for above in range(1, 7):
                    self.assert_answer(flat, (depth, nested(above, part)), [UNEVEN])

    def test_uneven_items_at_each_place(self):
        for depth in DEPTHS:
            for inner in range(depth - 1):
                # beside what fits, something that's not deep enough or too deep
                for parts in ((chain(depth - 1), chain(inner)), (chain(inner), chain(depth - 1)),
                              ("[0:]", chain(inner), "[0:]")):
                    self.assert_answer(flat, (depth, vector(parts)), [UNEVEN])
            if depth < 8:
                self.assert_answer(flat, (depth, vector([chain(depth - 1), chain(depth)])), [UNEVEN])
                self.assert_answer(flat, (depth, vector([chain(depth), chain(depth - 1)])), [UNEVEN])
                self.assert_answer(flat, (depth, nested(depth, "[0:]")), [UNEVEN])
                self.assert_answer(flat, (depth, vector(["[0:]", nested(depth - 1, "[0:]")])), [UNEVEN])
        self.assert_answer(flat, (1, "[1: [0:]]"), [UNEVEN])
        self.assert_answer(flat, (2, "[2: [1: 1] 2]"), [UNEVEN])
        self.assert_answer(flat, (2, "[2: 1 [1: 2]]"), [UNEVEN])
        self.assert_answer(flat, (2, "[2: [0:] 2]"), [UNEVEN])
        self.assert_answer(flat, (3, "[2: [0:] [1: 2]]"), [UNEVEN])

    def test_as_large_as_may_be(self):
        self.assert_answer(flat, (1, vector(["7"] * 256)), [0, 256] + [7] * 256)
        self.assert_answer(flat, (2, sized(512)), [0] + told([[0, 256, 509], [1] * 256 + [-2] * 253]))
        self.assert_answer(flat, (2, vector(["[0:]"] * 256)), [0] + told([[0] * 257, []]))
        self.assert_answer(flat, (8, vector(["[0:]"] * 256)), [0] + told([[0] * 257] + [[0]] * 6 + [[]]))
        self.assert_answer(flat, (2, vector(["[1: 7]"] * 255)), [0] + told([list(range(256)), [7] * 255]))


class UnflatTest(CallCase):

    def test_kind_stands_before_all_else(self):
        for depth in NO_DEPTHS:
            for numbers in ([], [0], [1, 5], [1], [-1], [1, 0] * 7 + [0], [1, 0] * 8 + [0], told([[7] * 257])):
                self.assert_answer(unflat, (depth, numbers), [KIND])

    def test_nothing_is_kept(self):
        between = ((9, [0]), (2, [2, 0, 1, 1, 5]), (1, [2]), (1, [1, 6]), (2, [1, 0, 0]))
        for asked in ((2, [4, 0, 2, 2, 3, 3, 4, 5, 6]), (1, [0]), (8, [1, 0] * 7 + [0]), (1, [1]), (0, [0])):
            self.assert_keeps_nothing(unflat, asked, between)

    def test_example(self):
        self.assert_value(unflat, (2, [4, 0, 2, 2, 3, 3, 4, 5, 6]), "[3: [2: 4 5] [0:] [1: 6]]")

    def test_table(self):
        for depth, text, lists in FLAT:
            if "[:" not in text:
                self.assert_value(unflat, (depth, told(lists)), text)

    def test_every_depth(self):
        for depth in DEPTHS:
            self.assert_value(unflat, (depth, told([[0, 1]] * (depth - 1) + [[7]])), chain(depth))
            self.assert_value(unflat, (depth, told([[0]] * (depth - 1) + [[]])), "[0:]")
            for above in range(1, depth):
                lists = [[0, 1]] * (above - 1) + [[0, 0]] + [[0]] * (depth - above - 1) + [[]]
                self.assert_value(unflat, (depth, told(lists)), nested(above, "[0:]"))

    def test_numbers_that_are_no_flat_lists(self):
        for depth, numbers in NO_DATA:
            self.assert_answer(unflat, (depth, numbers), [DATA])

    def test_lists_told_for_another_depth(self):
        for depth, text, lists in FLAT:
            for other in DEPTHS:
                if other != depth:
                    self.assert_answer(unflat, (other, told(lists)), [DATA])

    def test_each_number_changed(self):
        depth, lists = 3, [[0, 2, 2, 5], [0, 1, 3, 3, 3, 4], [1, 2, 3, 4]]
        numbers = told(lists)
        for place in range(len(numbers) - 4):
            for other in (-1, 9, TOP, -TOP):
                self.assert_answer(unflat, (depth, numbers[:place] + [other] + numbers[place + 1:]), [DATA])
        for end in range(len(numbers)):
            self.assert_answer(unflat, (depth, numbers[:end]), [DATA])

    def test_as_many_numbers_as_are_handed_over(self):
        self.assert_answer(unflat, (1, [1999] + [5] * 1999), [LIMIT])
        self.assert_answer(unflat, (1, [1998] + [5] * 1999), [DATA])
        self.assert_answer(unflat, (1, [2000] + [5] * 1999), [DATA])
        self.assert_answer(unflat, (2, [1998] + [0] * 1998 + [0]), [LIMIT])
        self.assert_answer(unflat, (2, [1997] + [0] * 1996 + [1, 1, TOP]), [LIMIT])
        self.assert_answer(unflat, (2, [1997] + [0] * 1996 + [1, 1, TOP + 1]), [DATA])
        self.assert_answer(unflat, (2, [1000] * 2000), [DATA])
        self.assert_answer(unflat, (8, [0] * 2000), [DATA])
        self.assert_answer(unflat, (8, [1] * 2000), [DATA])

    def test_shapes_of_what_comes_out(self):
        self.assert_value(unflat, (1, told([[7] * 256])), vector(["7"] * 256))
        self.assert_answer(unflat, (1, told([[7] * 257])), [LIMIT])
        self.assert_value(unflat, (2, told([[0] * 257, []])), vector(["[0:]"] * 256))
        self.assert_answer(unflat, (2, told([[0] * 258, []])), [LIMIT])
        self.assert_value(unflat, (2, told([[0, 256], [7] * 256])), nested(1, vector(["7"] * 256)))
        self.assert_answer(unflat, (2, told([[0, 257], [7] * 257])), [LIMIT])
        self.assert_answer(unflat, (2, told([[0, 0, 257, 258], [7] * 258])), [LIMIT])
        self.assert_answer(unflat, (3, told([[0, 257], [0] * 258, []])), [LIMIT])
        self.assert_answer(unflat, (8, told([[0] * 258] + [[0]] * 6 + [[]])), [LIMIT])

    def test_size_of_what_comes_out(self):
        self.assert_value(unflat, (2, told([[0, 256, 509], [1] * 256 + [-2] * 253])), sized(512))
        self.assert_answer(unflat, (2, told([[0, 256, 510], [1] * 256 + [-2] * 254])), [LIMIT])
        self.assert_answer(unflat, (2, told([[0, 0, 256, 509], [1] * 256 + [-2] * 253])), [LIMIT])
        self.assert_value(unflat, (2, told([list(range(256)), [7] * 255])), vector(["[1: 7]"] * 255))
        self.assert_answer(unflat, (2, told([list(range(257)), [7] * 256])), [LIMIT])
        self.assert_answer(unflat, (3, told([[0, 1, 256], list(range(257)), [7] * 256])), [LIMIT])

    def test_flat_and_back(self):
        texts = ["[0:]", "[2: [0:] [0:]]", "[2: [1: [0:]] [0:]]", "[2: [2: [1: 1] [0:]] [1: [2: 2 _3]]]", sized(512),
                 vector([vector([vector(["%d" % (one * other)] * one) for one in range(4)]) for other in range(5)])]
        texts += [chain(depth) for depth in DEPTHS] + [nested(above, "[0:]") for above in range(8)]
        fitted = 0
        for text in texts:
            for depth in DEPTHS:
                answer = flat(*handed_over((depth, text)))
                if answer != [UNEVEN]:
                    fitted += 1
                    self.assert_value(unflat, (depth, answer[1:]), text)
                    self.assert_answer(flat, (depth, text_in(self.ask(unflat, (depth, answer[1:])))), answer)
        # text by text, how many depths each one fits
        self.assertEqual(fitted, 8 + 7 + 6 + 1 + 1 + 1 + 8 + sum(DEPTHS))
