"""Promises 21 and 22: pack and raze."""

from nestarray.desk import pack, raze
from tests.support import DOMAIN, FIRST_REFUSED, LIMIT, RANK, SHAPE, TOP, CallCase, chain, sized, vector

NO_VECTORS = ("5", "_5", "0", "[: 5]", "[: [1: 5]]", "[: [2: [1: 1] [1: 2]]]", "[2 2: 1 2 3 4]", "[1 1: [1: 5]]",
              "[0 3:]", "[3 0:]", "[0 0:]", "[1 1 1 1: 5]")

# A vector, lengths, and the vector of vectors of these lengths.
PACKED = (
    ("[3: 4 5 6]", [2, 0, 1], "[3: [2: 4 5] [0:] [1: 6]]"),
    ("[3: 4 5 6]", [3], "[1: [3: 4 5 6]]"),
    ("[3: 4 5 6]", [1, 1, 1], "[3: [1: 4] [1: 5] [1: 6]]"),
    ("[3: 4 5 6]", [1, 2], "[2: [1: 4] [2: 5 6]]"),
    ("[3: 4 5 6]", [0, 3], "[2: [0:] [3: 4 5 6]]"),
    ("[3: 4 5 6]", [3, 0, 0], "[3: [3: 4 5 6] [0:] [0:]]"),
    ("[3: 4 5 6]", [0, 1, 0, 0, 2, 0], "[6: [0:] [1: 4] [0:] [0:] [2: 5 6] [0:]]"),
    ("[1: _5]", [1], "[1: [1: _5]]"),
    ("[1: _5]", [0, 1, 0], "[3: [0:] [1: _5] [0:]]"),
    ("[0:]", [], "[0:]"),
    ("[0:]", [0], "[1: [0:]]"),
    ("[0:]", [0, 0], "[2: [0:] [0:]]"),
    ("[4: 1 [2: 2 3] [: [1: 4]] [0 3:]]", [2, 2], "[2: [2: 1 [2: 2 3]] [2: [: [1: 4]] [0 3:]]]"),
    ("[2: [2 2: 1 2 3 4] [0:]]", [1, 0, 1], "[3: [1: [2 2: 1 2 3 4]] [0:] [1: [0:]]]"),
    ("[2: %d _%d]" % (TOP, TOP), [1, 1], "[2: [1: %d] [1: _%d]]" % (TOP, TOP)),
)

# A vector, and the vector of all items of its items.
RAZED = (
    ("[0:]", "[0:]"),
    ("[1: 5]", "[1: 5]"),
    ("[3: 4 _5 6]", "[3: 4 _5 6]"),
    ("[1: [0:]]", "[0:]"),
    ("[3: [0:] [0:] [0:]]", "[0:]"),
    ("[3: [2: 4 5] [0:] [1: 6]]", "[3: 4 5 6]"),
    ("[2: 1 [2: 2 3]]", "[3: 1 2 3]"),
    ("[3: [2: 1 2] 3 [1: 4]]", "[4: 1 2 3 4]"),
    ("[2: [: 7] [1: 8]]", "[2: 7 8]"),
    # one step down alone: what stands further down stays, of whatever rank
    ("[2: [2: 1 [2: 2 3]] [1: [1: 4]]]", "[3: 1 [2: 2 3] [1: 4]]"),
    ("[2: [2: [: [1: 5]] [0 3:]] [1: [2 2: 1 2 3 4]]]", "[3: [: [1: 5]] [0 3:] [2 2: 1 2 3 4]]"),
    ("[1: [2: [0:] [0:]]]", "[2: [0:] [0:]]"),
    (chain(8), chain(7)),
    (vector(["7"] * 256), vector(["7"] * 256)),
    (vector(["[1: 7]"] * 255), vector(["7"] * 255)),
)


class PackTest(CallCase):

    def test_refusals_of_the_text(self):
        for lengths in ([], [1], [-1], [2, 0, 1]):
            self.assert_looks_at_text(pack, behind=(lengths,))

    def test_nothing_is_kept(self):
        between = (("[2: 1", [1]), ("[2: 5 6]", [1, 1]), ("5", [1]), ("[0:]", [0]), ("[1: 4]", [-1]))
        for asked in (("[3: 4 5 6]", [2, 0, 1]), ("[0:]", []), ("5", [1]), ("[1: 5]", [2, -1]), ("[1: 5]", [2])):
            self.assert_keeps_nothing(pack, asked, between)

    def test_example(self):
        self.assert_value(pack, ("[3: 4 5 6]", [2, 0, 1]), "[3: [2: 4 5] [0:] [1: 6]]")

    def test_table(self):
        for text, lengths, told in PACKED:
            self.assert_value(pack, (text, lengths), told)

    def test_values_that_are_no_vectors(self):
        for text in NO_VECTORS:
            for lengths in ([], [0], [1], [2], [4], [-1], [1, 1, -1]):
                self.assert_answer(pack, (text, lengths), [RANK])

    def test_lengths_below_0(self):
        for lengths in ([-1], [-TOP], [3, -1], [-1, 4], [2, -1, 2], [4, 0, -1], [3, 3, -3], [-1, TOP], [TOP, -TOP, 3],
                        [3] + [0] * 1998 + [-1], [-1] * 2000):
            self.assert_answer(pack, ("[3: 4 5 6]", lengths), [DOMAIN])
        for lengths in ([-1], [1, -1], [0, -1], [-1, 1], [-TOP]):
            self.assert_answer(pack, ("[0:]", lengths), [DOMAIN])

    def test_sums_that_are_not_the_count(self):
        for lengths in ([], [0], [2], [4], [1, 1], [2, 2], [0, 0, 0], [1, 1, 2], [TOP], [TOP, TOP], [3, TOP],
                        [TOP, 3], [0, TOP, 0], [TOP] * 2000, [0] * 2000, [3, 1] + [0] * 1998):
            self.assert_answer(pack, ("[3: 4 5 6]", lengths), [SHAPE])
        for lengths in ([1], [0, 1], [TOP]):
            self.assert_answer(pack, ("[0:]", lengths), [SHAPE])
        self.assert_answer(pack, (chain(8), [2]), [SHAPE])
        self.assert_answer(pack, (chain(8), [1] + [0] * 300 + [1]), [SHAPE])

    def test_how_many_lengths_there_may_be(self):
        self.assert_value(pack, ("[0:]", [0] * 256), vector(["[0:]"] * 256))
        self.assert_value(pack, ("[2: 1 2]", [1] + [0] * 254 + [1]), vector(["[1: 1]"] + ["[0:]"] * 254 + ["[1: 2]"]))
        for count in (257, 258, 511, 512, 2000):
            self.assert_answer(pack, ("[0:]", [0] * count), [LIMIT])
            self.assert_answer(pack, ("[2: 1 2]", [2] + [0] * (count - 1)), [LIMIT])

    def test_depth_of_what_comes_out(self):
        self.assert_value(pack, (chain(7), [1]), chain(8))
        self.assert_value(pack, (chain(7), [0, 1]), "[2: [0:] %s]" % chain(7))
        self.assert_answer(pack, (chain(8), [1]), [LIMIT])
        self.assert_answer(pack, (chain(8), [0, 1]), [LIMIT])
        self.assert_answer(pack, ("[2: 1 %s]" % chain(7), [1, 1]), [LIMIT])

    def test_size_of_what_comes_out(self):
        numbers = vector(["7"] * 256)
        self.assert_value(pack, (numbers, [256]), vector([numbers]))
        self.assert_value(pack, (vector(["7"] * 255), [1] * 255), vector(["[1: 7]"] * 255))
        self.assert_value(pack, (numbers, [2] + [1] * 254), vector(["[2: 7 7]"] + ["[1: 7]"] * 254))
        self.assert_answer(pack, (numbers, [1] * 256), [LIMIT])
        self.assert_answer(pack, (numbers, [2, 0] + [1] * 254), [LIMIT])
        self.assert_value(pack, (sized(511), [2]), vector([sized(511)]))
        self.assert_answer(pack, (sized(511), [1, 1]), [LIMIT])
        self.assert_answer(pack, (sized(512), [2]), [LIMIT])


class RazeTest(CallCase):

    def test_refusals_of_the_text(self):
        self.assert_looks_at_text(raze)

    def test_nothing_is_kept(self):
        between = ("[2: 1", "[2: [1: 5] [1: 6]]", "[2: [1: 5] [: [1: 6]]]", "[0:]", "7")
        for text in ("[2: [2: 1 2] [2: 3 4]]", "[3: 1 2 3]", "5", "[1: [0 3:]]", "[2:"):
            self.assert_keeps_nothing(raze, text, between)

    def test_table(self):
        for text, told in RAZED:
            self.assert_value(raze, text, told)

    def test_values_that_are_no_vectors(self):
        for text in NO_VECTORS:
            self.assert_answer(raze, text, [RANK])

    def test_items_that_are_arrays_but_no_vectors(self):
        for part in ("[: [1: 5]]", "[: [0:]]", "[2 2: 1 2 3 4]", "[1 1: 5]", "[0 0:]", "[0 3:]", "[3 0:]",
                     "[1 1 1: [1: 5]]", "[0 0 0 256:]"):
            for parts in ([part], [part, "5"], ["5", part], ["[2: 1 2]", part], [part, "[0:]"], ["1", part, "[1: 2]"]):
                self.assert_answer(raze, vector(parts), [RANK])

    def test_how_many_items_there_may_be(self):
        self.assert_value(raze, vector([vector(["7"] * 128)] * 2), vector(["7"] * 256))
        self.assert_answer(raze, vector([vector(["7"] * 128), vector(["7"] * 129)]), [LIMIT])
        self.assert_value(raze, vector([vector(["7"] * 255), "8"]), vector(["7"] * 255 + ["8"]))
        self.assert_answer(raze, vector([vector(["7"] * 256), "8"]), [LIMIT])
        self.assert_answer(raze, sized(512), [LIMIT])
        self.assert_answer(raze, vector(["[0:]", vector(["7"] * 200), vector(["7"] * 57)]), [LIMIT])

    def test_rank_stands_before_the_limit(self):
        self.assert_answer(raze, vector([vector(["7"] * 200), vector(["7"] * 200), "[: [0:]]"]), [RANK])
        self.assert_answer(raze, vector([vector(["7"] * 200), vector(["7"] * 200), "[0:]"]), [LIMIT])

    def test_raze_of_pack_gives_the_vector_back(self):
        for text, lengths, told in PACKED:
            if lengths:
                self.assert_value(raze, told, text)

    def test_texts_with_blanks(self):
        for text, refusal in FIRST_REFUSED:
            self.assert_answer(raze, text, [refusal])
        self.assert_value(raze, " [ 2:\n[1 :4]\t[ 0 : ] ]\r", "[1: 4]")
