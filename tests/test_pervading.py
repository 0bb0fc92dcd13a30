"""Promises 17 and 18: pervade1 and pervade."""

from nestarray.desk import pervade, pervade1
from tests.support import BIG, FIRST_REFUSED, KIND, LIMIT, SHAPE, TOP, CallCase, bytes_of, chain, sized, vector

WITHOUT_ITEMS = ("[0:]", "[0 3:]", "[3 0:]", "[256 0:]", "[2 0 2:]", "[0 0 0 256:]")

# A value, and what comes out of pervade1 of each kind from 0 to 2.
ALONE = (
    ("0", "0", "0", "0"),
    ("5", "_5", "5", "1"),
    ("_5", "5", "5", "_1"),
    ("1", "_1", "1", "1"),
    ("_1", "1", "1", "_1"),
    ("%d" % TOP, "_%d" % TOP, "%d" % TOP, "1"),
    ("_%d" % TOP, "%d" % TOP, "%d" % TOP, "_1"),
    ("[: _5]", "5", "5", "_1"),
    ("[: [: [: 0]]]", "0", "0", "0"),
    ("[: [1: 5]]", "[: [1: _5]]", "[: [1: 5]]", "[: [1: 1]]"),
    ("[3: 4 0 _6]", "[3: _4 0 6]", "[3: 4 0 6]", "[3: 1 0 _1]"),
    ("[2: 1 [2: _2 3]]", "[2: _1 [2: 2 _3]]", "[2: 1 [2: 2 3]]", "[2: 1 [2: _1 1]]"),
    ("[4: [0:] [: [1: _8]] [0 3:] [2 1: 0 _9]]", "[4: [0:] [: [1: 8]] [0 3:] [2 1: 0 9]]",
     "[4: [0:] [: [1: 8]] [0 3:] [2 1: 0 9]]", "[4: [0:] [: [1: _1]] [0 3:] [2 1: 0 _1]]"),
    ("[2 1 1 2: 1 [1 1: _2] [: [: [2 0:]]] _40]", "[2 1 1 2: _1 [1 1: 2] [: [: [2 0:]]] 40]",
     "[2 1 1 2: 1 [1 1: 2] [: [: [2 0:]]] 40]", "[2 1 1 2: 1 [1 1: _1] [: [: [2 0:]]] _1]"),
    (chain(8), chain(8).replace("7", "_7"), chain(8), chain(8).replace("7", "1")),
    (sized(512), sized(512).replace("_2", "2").replace(" 1", " _1"), sized(512).replace("_2", "2"),
     sized(512).replace("_2", "_1")),
)

# Two values, and what comes out of pervade of each kind from 0 to 4.
PAIRS = (
    ("7", "_3", "4", "10", "_21", "_3", "7"),
    ("_3", "7", "4", "_10", "_21", "_3", "7"),
    ("0", "0", "0", "0", "0", "0", "0"),
    ("_4", "_4", "_8", "0", "16", "_4", "_4"),
    ("[: 7]", "[: [: 2]]", "9", "5", "14", "2", "7"),
    # a number beside arrays
    ("[2: 1 [2: 2 3]]", "10", "[2: 11 [2: 12 13]]", "[2: _9 [2: _8 _7]]", "[2: 10 [2: 20 30]]", "[2: 1 [2: 2 3]]",
     "[2: 10 [2: 10 10]]"),
    ("10", "[2: 1 [2: 2 30]]", "[2: 11 [2: 12 40]]", "[2: 9 [2: 8 _20]]", "[2: 10 [2: 20 300]]", "[2: 1 [2: 2 10]]",
     "[2: 10 [2: 10 30]]"),
    ("[2 2: 1 2 3 4]", "3", "[2 2: 4 5 6 7]", "[2 2: _2 _1 0 1]", "[2 2: 3 6 9 12]", "[2 2: 1 2 3 3]",
     "[2 2: 3 3 3 4]"),
    ("3", "[1 1 2 1: 1 [: [2: 5 _6]]]", "[1 1 2 1: 4 [: [2: 8 _3]]]", "[1 1 2 1: 2 [: [2: _2 9]]]",
     "[1 1 2 1: 3 [: [2: 15 _18]]]", "[1 1 2 1: 1 [: [2: 3 _6]]]", "[1 1 2 1: 3 [: [2: 5 3]]]"),
    # arrays of one shape
    ("[2: 1 [2: 2 3]]", "[2: 10 20]", "[2: 11 [2: 22 23]]", "[2: _9 [2: _18 _17]]", "[2: 10 [2: 40 60]]",
     "[2: 1 [2: 2 3]]", "[2: 10 [2: 20 20]]"),
    ("[2: 10 20]", "[2: [1: 1] [2: 2 30]]", "[2: [1: 11] [2: 22 50]]", "[2: [1: 9] [2: 18 _10]]",
     "[2: [1: 10] [2: 40 600]]", "[2: [1: 1] [2: 2 20]]", "[2: [1: 10] [2: 20 30]]"),
    ("[2 2: 1 2 3 4]", "[2 2: 8 6 _4 2]", "[2 2: 9 8 _1 6]", "[2 2: _7 _4 7 2]", "[2 2: 8 12 _12 8]",
     "[2 2: 1 2 _4 2]", "[2 2: 8 6 3 4]"),
    ("[1 2 1: [0:] 5]", "[1 2 1: [: [1: 3]] [1: 4]]", "[1 2 1: [0:] [1: 9]]", "[1 2 1: [0:] [1: 1]]",
     "[1 2 1: [0:] [1: 20]]", "[1 2 1: [0:] [1: 4]]", "[1 2 1: [0:] [1: 5]]"),
    # rank 0 on both sides: as deep as the deeper one
    ("5", "[: [2: 1 9]]", "[: [2: 6 14]]", "[: [2: 4 _4]]", "[: [2: 5 45]]", "[: [2: 1 5]]", "[: [2: 5 9]]"),
    ("[: [: [1: 5]]]", "7", "[: [: [1: 12]]]", "[: [: [1: _2]]]", "[: [: [1: 35]]]", "[: [: [1: 5]]]",
     "[: [: [1: 7]]]"),
    ("[: [2: 5 6]]", "[: [2: 10 1]]", "[: [2: 15 7]]", "[: [2: _5 5]]", "[: [2: 50 6]]", "[: [2: 5 1]]",
     "[: [2: 10 6]]"),
    ("[: [1: 5]]", "[: [: [1: 6]]]", "[: [1: [1: 11]]]", "[: [1: [1: _1]]]", "[: [1: [1: 30]]]", "[: [1: [1: 5]]]",
     "[: [1: [1: 6]]]"),
    # rank 0 on one side: its item goes with every item of the other one
    ("[: [2: 1 2]]", "[2: 10 20]", "[2: [2: 11 12] [2: 21 22]]", "[2: [2: _9 _8] [2: _19 _18]]",
     "[2: [2: 10 20] [2: 20 40]]", "[2: [2: 1 2] [2: 1 2]]", "[2: [2: 10 10] [2: 20 20]]"),
    ("[3: 1 [2: 7 8] [: [1: 9]]]", "[: [2: 5 6]]", "[3: [2: 6 7] [2: 12 14] [2: [1: 14] [1: 15]]]",
     "[3: [2: _4 _5] [2: 2 2] [2: [1: 4] [1: 3]]]", "[3: [2: 5 6] [2: 35 48] [2: [1: 45] [1: 54]]]",
     "[3: [2: 1 1] [2: 5 6] [2: [1: 5] [1: 6]]]", "[3: [2: 5 6] [2: 7 8] [2: [1: 9] [1: 9]]]"),
    ("[: [: [1 1: 2]]]", "[1 2: 3 [: [1 1: 4]]]", "[1 2: [: [1 1: 5]] [: [1 1: 6]]]",
     "[1 2: [: [1 1: _1]] [: [1 1: _2]]]", "[1 2: [: [1 1: 6]] [: [1 1: 8]]]", "[1 2: [: [1 1: 2]] [: [1 1: 2]]]",
     "[1 2: [: [1 1: 3]] [: [1 1: 4]]]"),
    ("[: [0:]]", "[2: 1 2]", "[2: [0:] [0:]]", "[2: [0:] [0:]]", "[2: [0:] [0:]]", "[2: [0:] [0:]]",
     "[2: [0:] [0:]]"),
)

# Two values whose shapes don't go together, here or further down.
UNLIKE = (
    ("[1: 1]", "[2: 1 2]"),
    ("[0:]", "[1: 1]"),
    ("[0:]", "[0 0:]"),
    ("[0 3:]", "[3 0:]"),
    ("[0 3:]", "[0 4:]"),
    ("[1: 1]", "[1 1: 1]"),
    ("[4: 1 2 3 4]", "[2 2: 1 2 3 4]"),
    ("[2 3: 1 2 3 4 5 6]", "[3 2: 1 2 3 4 5 6]"),
    ("[2 2: 1 2 3 4]", "[2: 1 2]"),
    ("[2: 1 [2: 2 3]]", "[2: 10 [1: 20]]"),
    ("[: [1: 1]]", "[: [2: 1 2]]"),
    ("[: [1: 1]]", "[2: 1 [2: 1 2]]"),
    ("[1: [: [0:]]]", "[1: [1: [2: 1 2]]]"),
    ("[1: [1: [1: [1: [3: 1 2 3]]]]]", "[1: [1: [1: [1: [2: 1 2]]]]]"),
)


class Pervade1Test(CallCase):

    def test_refusals_of_the_text(self):
        for kind in range(3):
            self.assert_looks_at_text(pervade1, before=(kind,))

    def test_kind_stands_before_all_else(self):
        for kind in (-1, -2, -3, -TOP, 3, 4, 6, 100, 2 ** 32, TOP):
            for text in ("5", "[0:]", "[2: 1 [2: 2 3]]", sized(512)):
                self.assert_answer(pervade1, (kind, text), [KIND])
            for text, refusal in FIRST_REFUSED:
                self.assert_answer(pervade1, (kind, text), [KIND])

    def test_nothing_is_kept(self):
        between = ((9, "5"), (2, "[: [2: 1 2]]"), (1, "[2: 1"), (0, "[1: [2: 8 9]]"))
        for kind in range(3):
            for text in ("5", "[2: 1 [2: 2 _3]]", "[1: [0 3:]]", "[0:", chain(9)):
                self.assert_keeps_nothing(pervade1, (kind, text), between)

    def test_example(self):
        self.assert_value(pervade1, (0, "[: [1: 5]]"), "[: [1: _5]]")

    def test_table(self):
        for row in ALONE:
            for kind in range(3):
                self.assert_value(pervade1, (kind, row[0]), row[1 + kind])

    def test_arrays_without_items(self):
        for text in WITHOUT_ITEMS:
            for kind in range(3):
                self.assert_value(pervade1, (kind, text), text)


class PervadeTest(CallCase):

    def test_refusals_of_the_texts(self):
        for kind in range(5):
            self.assert_looks_at_text(pervade, before=(kind,), behind=("5",))
            self.assert_looks_at_text(pervade, before=(kind, "[1: 5]"))

    def test_the_text_of_v_is_looked_at_first(self):
        for first, refusal in FIRST_REFUSED:
            for second, other in FIRST_REFUSED:
                self.assert_answer(pervade, (0, first, second), [refusal])

    def test_texts_are_looked_at_before_the_shapes(self):
        for first, refusal in FIRST_REFUSED:
            self.assert_answer(pervade, (0, first, "[2: 1 2]"), [refusal])
            self.assert_answer(pervade, (0, "[1: 1]", first), [refusal])

    def test_kind_stands_before_all_else(self):
        for kind in (-1, -2, -5, -TOP, 5, 6, 7, 100, 2 ** 32, TOP):
            for first, second in UNLIKE + (("5", "6"), (str(TOP), str(TOP)), ("[0:]", "3")):
                self.assert_answer(pervade, (kind, first, second), [KIND])
            for text, refusal in FIRST_REFUSED:
                self.assert_answer(pervade, (kind, text, "5"), [KIND])
                self.assert_answer(pervade, (kind, "5", text), [KIND])

    def test_nothing_is_kept(self):
        between = ((9, "5", "6"), (2, "[: [2: 1 2]]", "[2: 7 8]"), (1, "[2: 1", "5"), (0, "[1: 2]", "[2: 8 9]"))
        for kind in range(5):
            for pair in (("5", "6"), ("[2: 1 [2: 2 3]]", "[: [2: 4 5]]"), ("[1: 2]", "[0:]"), ("[0:", "5")):
                self.assert_keeps_nothing(pervade, (kind,) + pair, between)

    def test_examples(self):
        self.assert_value(pervade, (0, "[2: 1 [2: 2 3]]", "10"), "[2: 11 [2: 12 13]]")
        self.assert_value(pervade, (0, "[2: 1 [2: 2 3]]", "[2: 10 20]"), "[2: 11 [2: 22 23]]")

    def test_table(self):
        for row in PAIRS:
            for kind in range(5):
                self.assert_value(pervade, (kind, row[0], row[1]), row[2 + kind])

    def test_shapes_that_do_not_go_together(self):
        for first, second in UNLIKE:
            for kind in range(5):
                self.assert_answer(pervade, (kind, first, second), [SHAPE])
                self.assert_answer(pervade, (kind, second, first), [SHAPE])

    def test_arrays_without_items(self):
        beside = ("5", str(TOP), "[: [2: 1 2]]", "[: [: [0:]]]", "[: [2: [2: 1 2] [3: 1 2 3]]]")
        for kind in range(5):
            for text in WITHOUT_ITEMS:
                self.assert_value(pervade, (kind, text, text), text)
                for other in beside:
                    self.assert_value(pervade, (kind, text, other), text)
                    self.assert_value(pervade, (kind, other, text), text)

    def test_shapes_of_the_greatest_rank(self):
        parts = [str(number) for number in range(24)]
        for told in ("24", "1 24", "24 1", "4 6", "2 3 4", "2 3 2 2", "1 1 1 24"):
            text = "[%s: %s]" % (told, " ".join(parts))
            twice = "[%s: %s]" % (told, " ".join(str(2 * number) for number in range(24)))
            self.assert_value(pervade, (0, text, text), twice)
            self.assert_value(pervade, (2, text, "2"), twice)
            self.assert_value(pervade, (2, "2", text), twice)


class PervadeRefusalsTest(CallCase):

    def test_numbers_as_far_from_0_as_may_be(self):
        half = TOP // 2
        for kind, first, second, told in (
                (0, TOP, 0, TOP), (0, TOP - 1, 1, TOP), (0, -TOP, 0, -TOP), (0, -half, -half, -TOP),
                (0, TOP, -TOP, 0), (1, TOP, 0, TOP), (1, 0, TOP, -TOP), (1, half, -half, TOP), (1, -half, half, -TOP),
                (1, -TOP, -TOP, 0), (2, TOP, 1, TOP), (2, TOP, -1, -TOP), (2, 10 ** 9, 10 ** 9, TOP),
                (2, -10 ** 9, 10 ** 9, -TOP), (2, -10 ** 9, -10 ** 9, TOP), (2, TOP, 0, 0), (3, TOP, -TOP, -TOP),
                (4, TOP, -TOP, TOP), (3, TOP, TOP, TOP), (4, -TOP, -TOP, -TOP)):
            self.assert_value(pervade, (kind, told_number(first), told_number(second)), told_number(told))
            self.assert_value(pervade, (kind, vector([told_number(first)]), told_number(second)),
                              vector([told_number(told)]))

    def test_numbers_that_are_too_far_from_0(self):
        half = TOP // 2
        for kind, first, second in (
                (0, TOP, 1), (0, 1, TOP), (0, -TOP, -1), (0, half + 1, half), (0, TOP, TOP), (1, TOP, -1),
                (1, -TOP, 1), (1, -1, TOP), (1, 1, -TOP), (1, half, -half - 1), (2, TOP, 2), (2, TOP, -2),
                (2, 10 ** 9 + 1, 10 ** 9), (2, -10 ** 9 - 1, 10 ** 9), (2, -TOP, -TOP), (2, 2, half + 1)):
            one, other = told_number(first), told_number(second)
            self.assert_answer(pervade, (kind, one, other), [BIG])
            self.assert_answer(pervade, (kind, vector(["0", one]), other), [BIG])
            self.assert_answer(pervade, (kind, one, vector(["0", "[: [1: %s]]" % other])), [BIG])
            self.assert_answer(pervade, (kind, vector([one, "0"]), vector([other, "0"])), [BIG])

    def test_the_first_refusal_counts(self):
        big = ("%d" % TOP, "%d" % TOP)
        shape = ("[1: 1]", "[2: 1 2]")
        fine = ("[1: 1]", "[1: 2]")
        for kind in (0, 2):
            for pairs, refusal in (([big, shape], BIG), ([shape, big], SHAPE), ([fine, big, shape], BIG),
                                   ([fine, shape, fine, big], SHAPE)):
                first = vector([pair[0] for pair in pairs])
                second = vector([pair[1] for pair in pairs])
                self.assert_answer(pervade, (kind, first, second), [refusal])
                self.assert_answer(pervade, (kind, vector([first, shape[0]]), vector([second, shape[1]])), [refusal])
                self.assert_answer(pervade, (kind, vector([first, big[0]]), vector([second, big[1]])), [refusal])
        # the shapes of two arrays are looked at ahead of their items, and further down pair by pair
        self.assert_answer(pervade, (0, "[1: %d]" % TOP, "[2: %d 1]" % TOP), [SHAPE])
        self.assert_answer(pervade, (0, "[2: [1: %d] [1: 1]]" % TOP, "[2: 1 [2: 1 2]]"), [BIG])
        self.assert_answer(pervade, (0, "[2: [1: [1: 1]] %d]" % TOP, "[2: [1: [0:]] 1]"), [SHAPE])
        # smaller and greater ones are never too far from 0
        for kind in (3, 4):
            self.assert_answer(pervade, (kind, vector([big[0], shape[0]]), vector([big[1], shape[1]])), [SHAPE])
        self.assert_answer(pervade, (1, vector([big[0], shape[0]]), vector([big[1], shape[1]])), [SHAPE])

    def test_one_item_goes_with_every_item_in_order(self):
        inner = "[: [2: 1 %d]]" % TOP
        self.assert_answer(pervade, (0, inner, "[2: 0 [3: 1 2 3]]"), [SHAPE])
        self.assert_answer(pervade, (0, inner, "[2: 1 [3: 1 2 3]]"), [BIG])
        self.assert_answer(pervade, (0, "[2: [3: 1 2 3] 1]", inner), [SHAPE])
        self.assert_answer(pervade, (0, "[2: 1 [3: 1 2 3]]", inner), [BIG])

    def test_size_of_what_comes_out(self):
        for kind in range(5):
            self.assert_value(pervade, (kind, "[: [1: 0]]", vector(["0"] * 255)), vector(["[1: 0]"] * 255))
            self.assert_answer(pervade, (kind, "[: [1: 0]]", vector(["0"] * 256)), [LIMIT])
            self.assert_value(pervade, (kind, vector(["0"] * 73), "[: [6: 0 0 0 0 0 0]]"),
                              vector(["[6: 0 0 0 0 0 0]"] * 73))
            self.assert_answer(pervade, (kind, vector(["0"] * 74), "[: [6: 0 0 0 0 0 0]]"), [LIMIT])
            self.assert_answer(pervade, (kind, vector(["0"] * 256), "[: %s]" % vector(["1"] * 256)), [LIMIT])

    def test_limit_is_looked_at_last_alone(self):
        zeros = vector(["0"] * 256)
        self.assert_answer(pervade, (0, zeros, "[: [3: 0 0 0]]"), [LIMIT])
        self.assert_answer(pervade, (0, vector(["0"] * 255 + ["1"]), "[: [3: 0 0 %d]]" % TOP), [BIG])
        self.assert_answer(pervade, (0, vector(["0"] * 255 + ["[2: 0 0]"]), "[: [3: 0 0 0]]"), [SHAPE])
        self.assert_answer(pervade, (0, "[: [3: 0 0 %d]]" % TOP, vector(["0"] * 255 + ["1"])), [BIG])
        self.assert_answer(pervade, (0, "[: [3: 0 0 0]]", vector(["0"] * 255 + ["[2: 0 0]"])), [SHAPE])
        doubled = vector([vector(["0"] * 250), vector(["0"] * 249 + ["1"])])
        last = vector([vector(["0"] * 250), vector(["0"] * 249 + [str(TOP)])])
        self.assert_answer(pervade, (0, "[: [: %s]]" % doubled, doubled), [LIMIT])
        self.assert_answer(pervade, (0, "[: [: %s]]" % last, doubled), [BIG])

    def test_as_deep_and_as_large_as_may_be(self):
        for kind, told in ((0, "14"), (1, "0"), (2, "49"), (3, "7"), (4, "7")):
            for depth in range(9):
                deep = chain(8).replace("7", told)
                self.assert_value(pervade, (kind, chain(8), chain(depth)), deep)
                self.assert_value(pervade, (kind, chain(depth), chain(8)), deep)
        boxed = "[: " * 7 + "[2: 1 2]" + "]" * 7
        self.assert_value(pervade, (0, boxed, "3"), boxed.replace("1 2", "4 5"))
        self.assert_value(pervade, (0, boxed, boxed), boxed.replace("1 2", "2 4"))
        self.assert_value(pervade, (0, sized(512), sized(512)), sized(512).replace("_2", "_4").replace(" 1", " 2"))
        self.assert_value(pervade, (0, "0", sized(512)), sized(512))
        self.assertEqual(pervade(4, bytes_of(sized(512)), bytes_of("3"))[:6], [0] + bytes_of("[2: ["))


def told_number(number):
    return str(number).replace("-", "_")
