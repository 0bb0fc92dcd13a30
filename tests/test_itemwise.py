"""Promise 16: each."""

from nestarray.desk import each
from tests.support import BIG, FIRST_REFUSED, KIND, LIMIT, TOP, CallCase, bytes_of, chain, sized, vector

KINDS = range(7)
NO_KINDS = (-1, -2, -7, -TOP, 7, 8, 100, 2 ** 32, TOP)

UP = " ".join(str(number) for number in range(1, 17))

# A value, and what comes out of each kind from 0 to 6.
TABLE = (
    ("5", "[: [0:]]", "1", "[: [1: 5]]", "5", "0", "5", "5"),
    ("_%d" % TOP, "[: [0:]]", "1", "[: [1: _%d]]" % TOP, "_%d" % TOP, "0", "_%d" % TOP, "_%d" % TOP),
    ("[: [: 5]]", "[: [0:]]", "1", "[: [1: 5]]", "5", "0", "5", "5"),
    # rank 0, with an array in it
    ("[: [2: 5 6]]", "[: [1: 2]]", "2", "[: [2: 5 6]]", "11", "1", "[: [2: 6 5]]", "5"),
    ("[: [0:]]", "[: [1: 0]]", "0", "[: [0:]]", "0", "1", "[: [0:]]", "0"),
    ("[: [3 0:]]", "[: [2: 3 0]]", "3", "[: [0:]]", "0", "1", "[: [3 0:]]", "0"),
    ("[: [: [1: 5]]]", "[: [0:]]", "1", "[: [1: [1: 5]]]", "5", "2", "[: [: [1: 5]]]", "[: [1: 5]]"),
    ("[: [2 2: 1 2 3 4]]", "[: [2: 2 2]]", "2", "[: [4: 1 2 3 4]]", "10", "1", "[: [2 2: 3 4 1 2]]", "1"),
    ("[: [1: [0 9:]]]", "[: [1: 1]]", "1", "[: [1: [0 9:]]]", "0", "2", "[: [1: [0 9:]]]", "[: [0 9:]]"),
    # vectors
    ("[3: 4 _5 6]", "[3: [0:] [0:] [0:]]", "[3: 1 1 1]", "[3: [1: 4] [1: _5] [1: 6]]", "[3: 4 _5 6]", "[3: 0 0 0]",
     "[3: 4 _5 6]", "[3: 4 _5 6]"),
    ("[2: 1 [2: 2 3]]", "[2: [0:] [1: 2]]", "[2: 1 2]", "[2: [1: 1] [2: 2 3]]", "[2: 1 5]", "[2: 0 1]",
     "[2: 1 [2: 3 2]]", "[2: 1 2]"),
    ("[1: [2: [2: 1 2] [2: 3 4]]]", "[1: [1: 2]]", "[1: 2]", "[1: [2: [2: 1 2] [2: 3 4]]]", "[1: 10]", "[1: 2]",
     "[1: [2: [2: 3 4] [2: 1 2]]]", "[1: [2: 1 2]]"),
    ("[4: [0:] [0 3:] [3 0:] [2 0 5:]]", "[4: [1: 0] [2: 0 3] [2: 3 0] [3: 2 0 5]]", "[4: 0 0 3 2]",
     "[4: [0:] [0:] [0:] [0:]]", "[4: 0 0 0 0]", "[4: 1 1 1 1]", "[4: [0:] [0 3:] [3 0:] [2 0 5:]]", "[4: 0 0 0 0]"),
    ("[3: [0 256:] [256 0:] [0 0 0 0:]]", "[3: [2: 0 256] [2: 256 0] [4: 0 0 0 0]]", "[3: 0 256 0]",
     "[3: [0:] [0:] [0:]]", "[3: 0 0 0]", "[3: 1 1 1]", "[3: [0 256:] [256 0:] [0 0 0 0:]]", "[3: 0 0 0]"),
    # higher ranks
    ("[2 2: [3 2: 1 2 3 4 5 6] [0 3:] [: [2: 7 [1: _8]]] [2 1 2: 1 [: [0:]] 3 4]]",
     "[2 2: [2: 3 2] [2: 0 3] [0:] [3: 2 1 2]]", "[2 2: 3 0 1 2]",
     "[2 2: [6: 1 2 3 4 5 6] [0:] [1: [2: 7 [1: _8]]] [4: 1 [: [0:]] 3 4]]", "[2 2: 21 0 _1 8]", "[2 2: 1 1 3 3]",
     "[2 2: [3 2: 5 6 3 4 1 2] [0 3:] [: [2: 7 [1: _8]]] [2 1 2: 3 4 1 [: [0:]]]]", "[2 2: 1 0 [2: 7 [1: _8]] 1]"),
    ("[1 2 1: [3 0:] 9]", "[1 2 1: [2: 3 0] [0:]]", "[1 2 1: 3 1]", "[1 2 1: [0:] [1: 9]]", "[1 2 1: 0 9]",
     "[1 2 1: 1 0]", "[1 2 1: [3 0:] 9]", "[1 2 1: 0 9]"),
    ("[2 1 1 1: [1 1 1 1: [1: 5]] [2 2 2 2: %s]]" % UP, "[2 1 1 1: [4: 1 1 1 1] [4: 2 2 2 2]]", "[2 1 1 1: 1 2]",
     "[2 1 1 1: [1: [1: 5]] [16: %s]]" % UP, "[2 1 1 1: 5 136]", "[2 1 1 1: 2 1]",
     "[2 1 1 1: [1 1 1 1: [1: 5]] [2 2 2 2: 9 10 11 12 13 14 15 16 1 2 3 4 5 6 7 8]]", "[2 1 1 1: [1: 5] 1]"),
    # as deep as may be
    (chain(8), "[1: [1: 1]]", "[1: 1]", chain(8), "[1: 7]", "[1: 7]", chain(8), chain(7)),
)


class EachTest(CallCase):

    def test_refusals_of_the_text(self):
        for kind in KINDS:
            self.assert_looks_at_text(each, before=(kind,))

    def test_kind_stands_before_all_else(self):
        for kind in NO_KINDS:
            for text in ("5", "[0:]", "[2: 1 [2: 2 3]]", "[2: %d %d]" % (TOP, TOP), vector(["1"] * 256)):
                self.assert_answer(each, (kind, text), [KIND])
            for text, refusal in FIRST_REFUSED:
                self.assert_answer(each, (kind, text), [KIND])

    def test_nothing_is_kept(self):
        between = ((9, "5"), (2, "[: [2: 1 2]]"), (3, "[2: 1"), (5, "[1: [2: 8 9]]"))
        for kind in KINDS:
            for text in ("5", "[2: 1 [2: 2 3]]", "[1: [0 3:]]", "[0:", chain(9)):
                self.assert_keeps_nothing(each, (kind, text), between)

    def test_example(self):
        self.assert_value(each, (1, "[2: 1 [2: 2 3]]"), "[2: 1 2]")

    def test_table(self):
        for row in TABLE:
            for kind in KINDS:
                self.assert_value(each, (kind, row[0]), row[1 + kind])

    def test_arrays_without_items(self):
        for text in ("[0:]", "[0 3:]", "[3 0:]", "[256 0:]", "[2 0 2:]", "[0 0 0 256:]"):
            for kind in KINDS:
                self.assert_value(each, (kind, text), text)

    def test_cells_in_the_opposite_order(self):
        numbers = [str(number) for number in range(24)]
        for extents in ((24,), (1, 24), (24, 1), (2, 12), (12, 2), (3, 8), (2, 3, 4), (4, 3, 2), (3, 1, 8),
                        (4, 1, 3, 2)):
            told = " ".join(str(extent) for extent in extents)
            width = 24 // extents[0]
            back = [number for start in range(24 - width, -1, -width) for number in numbers[start:start + width]]
            asked = "[1: [%s: %s]]" % (told, " ".join(numbers))
            self.assert_value(each, (5, asked), "[1: [%s: %s]]" % (told, " ".join(back)))

    def test_sums(self):
        self.assert_value(each, (3, "[1: [2: %d %d]]" % (TOP - 1, 1)), "[1: %d]" % TOP)
        self.assert_value(each, (3, "[1: [2: _%d _%d]]" % (TOP - 1, 1)), "[1: _%d]" % TOP)
        self.assert_value(each, (3, "[2: %d _%d]" % (TOP, TOP)), "[2: %d _%d]" % (TOP, TOP))
        self.assert_value(each, (3, "[2: %d %d]" % (TOP, TOP)), "[2: %d %d]" % (TOP, TOP))
        self.assert_value(each, (3, "[1: [2: [2: 1 _2] [: [1: [3: 4 _5 6]]]]]"), "[1: 4]")
        self.assert_value(each, (3, vector([vector([str(TOP)] * 2 + ["_%d" % TOP])])), "[1: %d]" % TOP)
        self.assert_value(each, (3, vector([vector([str(TOP), "[2: 5 _5]", "[0:]"])])), "[1: %d]" % TOP)
        self.assert_value(each, (3, sized(512)), "[2: 256 _506]")

    def test_sums_that_are_too_far_from_0(self):
        for text in ("[1: [2: %d 1]]", "[1: [2: _%d _1]]", "[: [2: %d 1]]", "[2: 1 [2: %d 1]]", "[2: [2: %d 1] 1]",
                     "[1: [2: [1: %d] [: [1: 1]]]]", "[2: [2: %d 1] [2: _1000000000000000000 _1]]",
                     "[3: [0:] [2: 1 2] [2: 1 %d]]", "[1 1: [2 1: %d 1]]", "[1: [3: %d 2 _1]]"):
            self.assert_answer(each, (3, text % TOP), [BIG])
            for kind in (0, 1, 2, 4, 5, 6):
                self.assertEqual(self.ask(each, (kind, text % TOP))[0], 0)
        self.assert_answer(each, (3, vector([vector([str(TOP)] * 200)])), [BIG])

    def test_size_of_what_comes_out(self):
        self.assert_value(each, (2, vector(["7"] * 255)), vector(["[1: 7]"] * 255))
        self.assert_answer(each, (2, vector(["7"] * 256)), [LIMIT])
        self.assert_answer(each, (2, "[4 4 4 4:%s]" % (" 7" * 256)), [LIMIT])
        self.assert_value(each, (2, vector(["7"] * 254 + ["[2: 7 8]"])), vector(["[1: 7]"] * 254 + ["[2: 7 8]"]))
        self.assert_answer(each, (2, vector(["7"] * 254 + ["[3: 7 8 9]"])), [LIMIT])
        without_items = ["[0 0 0:]"] * 127
        self.assert_value(each, (0, vector(without_items + ["[0 0:]"])), vector(["[3: 0 0 0]"] * 127 + ["[2: 0 0]"]))
        self.assert_answer(each, (0, vector(without_items + ["[0 0 0:]"])), [LIMIT])
        self.assert_value(each, (0, vector(["7"] * 256)), vector(["[0:]"] * 256))
        self.assert_value(each, (0, vector(["[0:]"] * 255)), vector(["[1: 0]"] * 255))
        self.assert_answer(each, (0, vector(["[0:]"] * 256)), [LIMIT])

    def test_as_large_as_may_be(self):
        self.assert_value(each, (0, sized(512)), "[2: [1: 256] [1: 253]]")
        self.assert_value(each, (2, sized(512)), sized(512))
        self.assert_value(each, (5, sized(512)), sized(512))
        self.assert_value(each, (6, sized(512)), "[2: 1 _2]")
        for kind in (1, 3, 4, 5, 6):
            self.assertEqual(each(kind, bytes_of(vector(["7"] * 256)))[:6], [0] + bytes_of("[256:"))
