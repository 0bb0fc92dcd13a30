"""Promises 19 and 20: split and mix."""

from nestarray.desk import mix, split
from tests.support import LIMIT, RANK, SHAPE, CallCase, chain, sized, text_in, vector


def spread(extents, parts):
    """The text of an array of these extents with items of these texts."""
    return "[%s:%s]" % (" ".join(str(extent) for extent in extents), "".join(" " + part for part in parts))


# An array and the vector of its cells: split leads from the one to the other, mix back.
ROUND = (
    ("[2 2: 1 2 3 4]", "[2: [2: 1 2] [2: 3 4]]"),
    ("[1 1: 5]", "[1: [1: 5]]"),
    ("[1 3: 4 _5 6]", "[1: [3: 4 _5 6]]"),
    ("[3 1: 4 _5 6]", "[3: [1: 4] [1: _5] [1: 6]]"),
    ("[2 3: 1 2 3 4 5 6]", "[2: [3: 1 2 3] [3: 4 5 6]]"),
    ("[3 2: 1 2 3 4 5 6]", "[3: [2: 1 2] [2: 3 4] [2: 5 6]]"),
    ("[2 2 2: 1 2 3 4 5 6 7 8]", "[2: [2 2: 1 2 3 4] [2 2: 5 6 7 8]]"),
    ("[2 1 3: 1 2 3 4 5 6]", "[2: [1 3: 1 2 3] [1 3: 4 5 6]]"),
    ("[2 3 1 1: 1 2 3 4 5 6]", "[2: [3 1 1: 1 2 3] [3 1 1: 4 5 6]]"),
    ("[1 2 1 2: 1 2 3 4]", "[1: [2 1 2: 1 2 3 4]]"),
    # items that are arrays
    ("[2 2: 1 [2: 2 3] [: [1: 4]] [0 3:]]", "[2: [2: 1 [2: 2 3]] [2: [: [1: 4]] [0 3:]]]"),
    ("[2 1: [2 2: 1 2 3 4] [: [: [0:]]]]", "[2: [1: [2 2: 1 2 3 4]] [1: [: [: [0:]]]]]"),
    # no items, but cells
    ("[3 0:]", "[3: [0:] [0:] [0:]]"),
    ("[1 0:]", "[1: [0:]]"),
    ("[2 0 4:]", "[2: [0 4:] [0 4:]]"),
    ("[2 4 0:]", "[2: [4 0:] [4 0:]]"),
    ("[2 0 0 5:]", "[2: [0 0 5:] [0 0 5:]]"),
    ("[1 256 0:]", "[1: [256 0:]]"),
    ("[256 0:]", vector(["[0:]"] * 256)),
    ("[2 128 0:]", "[2: [128 0:] [128 0:]]"),
)


class SplitTest(CallCase):

    def test_refusals_of_the_text(self):
        self.assert_looks_at_text(split)

    def test_nothing_is_kept(self):
        between = ("[2: 1", "[2 1: 5 6]", "[3: 1 2 3]", "[0 3:]")
        for text in ("[2 2: 1 2 3 4]", "[3 0:]", "5", "[1: [1 1: 2]]", "[2:"):
            self.assert_keeps_nothing(split, text, between)

    def test_example(self):
        self.assert_value(split, "[2 2: 1 2 3 4]", "[2: [2: 1 2] [2: 3 4]]")

    def test_cells_of_arrays(self):
        for array, cells in ROUND:
            self.assert_value(split, array, cells)

    def test_no_cells(self):
        for text in ("[0 3:]", "[0 0:]", "[0 256:]", "[0 2 2:]", "[0 3 0:]", "[0 1 1 1:]"):
            self.assert_value(split, text, "[0:]")

    def test_cells_of_all_ranks(self):
        parts = [str(number) for number in range(24)]
        for extents in ((24, 1), (1, 24), (2, 12), (12, 2), (3, 8), (2, 3, 4), (4, 3, 2), (3, 1, 8), (4, 1, 3, 2),
                        (2, 2, 2, 3)):
            width = 24 // extents[0]
            cells = [spread(extents[1:], parts[start:start + width]) for start in range(0, 24, width)]
            self.assert_value(split, spread(extents, parts), vector(cells))

    def test_ranks_below_2(self):
        for text in ("5", "_5", "0", "[: 5]", "[: [1: 5]]", "[: [2 2: 1 2 3 4]]", "[0:]", "[1: 5]", "[3: 1 2 3]",
                     "[2: [2 2: 1 2 3 4] [2 2: 5 6 7 8]]", "[1: [0 3:]]", chain(8), sized(512)):
            self.assert_answer(split, text, [RANK])

    def test_depth_of_what_comes_out(self):
        self.assert_value(split, "[1 1: %s]" % chain(6), "[1: [1: %s]]" % chain(6))
        self.assert_answer(split, "[1 1: %s]" % chain(7), [LIMIT])
        self.assert_answer(split, "[2 1: 1 %s]" % chain(7), [LIMIT])
        self.assert_answer(split, "[2 1 1 1: %s 1]" % chain(7), [LIMIT])

    def test_size_of_what_comes_out(self):
        self.assert_value(split, spread((255, 1), ["7"] * 255), vector(["[1: 7]"] * 255))
        self.assert_answer(split, spread((256, 1), ["7"] * 256), [LIMIT])
        self.assert_answer(split, spread((256, 1, 1), ["7"] * 256), [LIMIT])
        self.assert_value(split, spread((128, 2), ["7"] * 256), vector(["[2: 7 7]"] * 128))
        # one and 254 numbers, 2 cells, and an inner vector
        for count in (254, 255, 256):
            parts = ["7"] * 255 + [vector(["8"] * (count - 1))]
            told = vector([vector(parts[:128]), vector(parts[128:])])
            if count == 254:
                self.assert_value(split, spread((2, 128), parts), told)
            else:
                self.assert_answer(split, spread((2, 128), parts), [LIMIT])


class MixTest(CallCase):

    def test_refusals_of_the_text(self):
        self.assert_looks_at_text(mix)

    def test_nothing_is_kept(self):
        between = ("[2: 1", "[2: [1: 5] [1: 6]]", "[2: [1: 5] 6]", "[0:]", "7")
        for text in ("[2: [2: 1 2] [2: 3 4]]", "[3: 1 2 3]", "5", "[2: 1 [0:]]", "[2:"):
            self.assert_keeps_nothing(mix, text, between)

    def test_example(self):
        self.assert_value(mix, "[2: [2: 1 2] [2: 3 4]]", "[2 2: 1 2 3 4]")

    def test_cells_put_together(self):
        for array, cells in ROUND:
            self.assert_value(mix, cells, array)

    def test_items_of_rank_0(self):
        self.assert_value(mix, "[0:]", "[0:]")
        self.assert_value(mix, "[1: 5]", "[1: 5]")
        self.assert_value(mix, "[3: 1 _2 3]", "[3: 1 _2 3]")
        self.assert_value(mix, "[1: [: [2: 5 6]]]", "[1: [2: 5 6]]")
        self.assert_value(mix, "[2: [: [2: 1 2]] [: [0 3:]]]", "[2: [2: 1 2] [0 3:]]")
        self.assert_value(mix, "[3: 5 [: [1: 6]] [: 7]]", "[3: 5 [1: 6] 7]")
        self.assert_value(mix, "[2: [: [: [1: 6]]] 5]", "[2: [: [1: 6]] 5]")
        self.assert_value(mix, vector(["7"] * 256), vector(["7"] * 256))

    def test_items_that_are_arrays_of_arrays(self):
        self.assert_value(mix, "[2: [2: 1 [2: 2 3]] [2: [0:] [: [1: 4]]]]", "[2 2: 1 [2: 2 3] [0:] [: [1: 4]]]")
        self.assert_value(mix, "[1: [1: [1: 5]]]", "[1 1: [1: 5]]")
        self.assert_value(mix, chain(8), "[1 1: %s]" % chain(6))

    def test_values_that_are_no_vectors(self):
        for text in ("5", "_5", "[: 5]", "[: [1: 5]]", "[: [2: [1: 1] [2: 1 2]]]", "[2 2: 1 2 3 4]", "[1 1: 5]",
                     "[0 3:]", "[3 0:]", "[0 0:]", "[2 1: [1: 5] [1: 6]]", "[1 2: [1: 5] 6]", "[1 1 1 1: 5]"):
            self.assert_answer(mix, text, [RANK])

    def test_items_of_several_shapes(self):
        for one, other in (("5", "[1: 5]"), ("5", "[0:]"), ("[: [1: 5]]", "[1: 5]"), ("[1: 5]", "[2: 5 6]"),
                           ("[1: 5]", "[1 1: 5]"), ("[4: 1 2 3 4]", "[2 2: 1 2 3 4]"), ("[0:]", "[0 0:]"),
                           ("[0 3:]", "[3 0:]"), ("[0 3:]", "[0 4:]"), ("[2 3: 1 2 3 4 5 6]", "[3 2: 1 2 3 4 5 6]"),
                           ("[1 1 1 1: 5]", "[1 1 1: 5]")):
            for parts in ((one, other), (other, one), (one, one, other), (one, other, one), (other, one, one),
                          (other, one, other)):
                self.assert_answer(mix, vector(parts), [SHAPE])

    def test_shape_stands_before_the_limit(self):
        self.assert_answer(mix, "[2: [1 1 1 1: 5] [1 1 1 1: 6]]", [LIMIT])
        self.assert_answer(mix, "[3: [1 1 1 1: 5] [1 1 1 1: 6] 7]", [SHAPE])
        self.assert_answer(mix, "[2: [256 0:] [256 0:]]", [LIMIT])
        self.assert_answer(mix, "[3: [256 0:] [256 0:] [255 0:]]", [SHAPE])

    def test_shapes_that_are_none(self):
        self.assert_value(mix, "[1: [1 1 1: 5]]", "[1 1 1 1: 5]")
        for text in ("[1: [1 1 1 1: 5]]", "[1: [0 0 0 0:]]", "[2: [2 1 1 1: 1 2] [2 1 1 1: 3 4]]"):
            self.assert_answer(mix, text, [LIMIT])
        self.assert_value(mix, "[2: [128 0:] [128 0:]]", "[2 128 0:]")
        self.assert_value(mix, "[2: [0 128:] [0 128:]]", "[2 0 128:]")
        self.assert_value(mix, "[1: [256 0:]]", "[1 256 0:]")
        for text in ("[2: [129 0:] [129 0:]]", "[2: [0 129:] [0 129:]]", "[2: [256 0:] [256 0:]]",
                     "[3: [2 0 43:] [2 0 43:] [2 0 43:]]", vector(["[2 0:]"] * 129),
                     vector([vector(["1"] * 127)] * 3), vector([vector(["1"] * 129)] * 2)):
            self.assert_answer(mix, text, [LIMIT])
        self.assert_value(mix, vector([vector(["1"] * 128)] * 2), spread((2, 128), ["1"] * 256))
        self.assert_value(mix, vector(["[2 0:]"] * 128), "[128 2 0:]")

    def test_mix_of_split_gives_the_array_back(self):
        parts = [str(number) for number in range(36)]
        for extents in ((36, 1), (1, 36), (6, 6), (2, 3, 6), (3, 12, 1), (2, 3, 3, 2), (9, 1, 4, 1)):
            array = spread(extents, parts)
            self.assert_value(mix, text_in(self.ask(split, array)), array)
