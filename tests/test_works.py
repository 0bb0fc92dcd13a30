"""Promises 5 to 8: leaves, skeleton, enclose, disclose, and what comes out of a work."""

from nestarray.desk import disclose, enclose, leaves, measure, skeleton
from nestarray.refusals import LimitRefusal
from nestarray.values import NestedArray
from nestarray.works import come_out
from tests.support import BIG, FORM, LIMIT, LONG, RANK, SHAPE, TOP, CallCase
from tests.support import bytes_of, chain, sized, text_in, vector

CALLS = (leaves, skeleton, enclose, disclose)

# Arrays of arrays of several ranks, without items, of rank 0.
MANY = "[2 1 2: 1 [: [1: _2]] [0 3:] [2 2: 3 [0:] _4 [: [: [2: 5 6]]]]]"


class EveryWorkTest(CallCase):

    def test_refusals_of_a_text(self):
        for call in CALLS:
            self.assert_looks_at_text(call)

    def test_nothing_is_kept(self):
        for call in CALLS:
            for text in ("[2: 1 [2: 2 3]]", "[: [2: 5 6]]", "[: 5]", "[0:", chain(8), MANY):
                self.assert_keeps_nothing(call, text)


class LeavesTest(CallCase):

    def test_numbers(self):
        for number in (0, 7, -7, TOP, -TOP):
            self.assert_answer(leaves, str(number).replace("-", "_"), [0, number])
        self.assert_answer(leaves, "[: [: _5]]", [0, -5])

    def test_arrays(self):
        self.assert_answer(leaves, "[3: 4 _5 6]", [0, 4, -5, 6])
        self.assert_answer(leaves, "[2 2: 1 2 3 4]", [0, 1, 2, 3, 4])
        self.assert_answer(leaves, "[: [2: 5 6]]", [0, 5, 6])
        self.assert_answer(leaves, "[4: 1 [2: 2 [1: 3]] [0:] 4]", [0, 1, 2, 3, 4])
        self.assert_answer(leaves, "[2: [2: 9 8] 9]", [0, 9, 8, 9])
        self.assert_answer(leaves, MANY, [0, 1, -2, 3, -4, 5, 6])

    def test_no_leaves(self):
        for text in ("[0:]", "[3 0:]", "[: [0:]]", "[2: [0:] [0 2: ]]"):
            self.assert_answer(leaves, text, [0])

    def test_as_many_and_as_deep_as_may_be(self):
        self.assert_answer(leaves, sized(512), [0] + [1] * 256 + [-2] * 253)
        self.assert_answer(leaves, chain(8), [0, 7])


class SkeletonTest(CallCase):

    def test_numbers(self):
        for text in ("0", "7", "_7", str(TOP), "_%d" % TOP, "[: 5]"):
            self.assert_value(skeleton, text, "0")

    def test_arrays(self):
        self.assert_value(skeleton, "[3: 4 _5 6]", "[3: 0 0 0]")
        self.assert_value(skeleton, "[2 2: 1 2 0 4]", "[2 2: 0 0 0 0]")
        self.assert_value(skeleton, "[: [2: 5 6]]", "[: [2: 0 0]]")
        self.assert_value(skeleton, "[3: 1 [: 2] [1: [: 3]]]", "[3: 0 0 [1: 0]]")
        self.assert_value(skeleton, MANY, "[2 1 2: 0 [: [1: 0]] [0 3:] [2 2: 0 [0:] 0 [: [: [2: 0 0]]]]]")

    def test_arrays_without_items_stay(self):
        for text in ("[0:]", "[3 0:]", "[0 0 0 256:]", "[: [0:]]", "[2: [0:] [0 2:]]"):
            self.assert_value(skeleton, text, text)

    def test_as_many_and_as_deep_as_may_be(self):
        self.assert_value(skeleton, sized(512), sized(512).replace(" 1", " 0").replace("_2", "0"))
        self.assert_value(skeleton, chain(8), chain(8).replace("7", "0"))


class EncloseTest(CallCase):

    def test_a_number_comes_out_as_it_is(self):
        for text in ("0", "7", "_7", str(TOP), "_%d" % TOP):
            self.assert_value(enclose, text, text)
            self.assert_value(enclose, "[: %s]" % text, text)

    def test_arrays(self):
        for text in ("[1: 5]", "[3: 4 _5 6]", "[2 2: 1 2 3 4]", "[0:]", "[3 0:]", "[: [2: 5 6]]", "[: [: [0:]]]", MANY):
            self.assert_value(enclose, text, "[: %s]" % text)

    def test_depth_of_what_comes_out(self):
        self.assert_value(enclose, chain(7), "[: %s]" % chain(7))
        self.assert_answer(enclose, chain(8), [LIMIT])
        without_numbers = "[: " * 6 + "[0:]" + "]" * 6
        self.assert_value(enclose, without_numbers, "[: %s]" % without_numbers)
        self.assert_answer(enclose, "[: %s]" % without_numbers, [LIMIT])

    def test_size_of_what_comes_out(self):
        self.assert_value(enclose, sized(511), "[: %s]" % sized(511))
        self.assert_answer(enclose, sized(512), [LIMIT])
        without_numbers = [vector(["[0:]"] * 255), vector(["[0:]"] * 254)]
        self.assertEqual(measure(bytes_of(vector(without_numbers)))[2], 512)
        self.assert_answer(enclose, vector(without_numbers), [LIMIT])


class DiscloseTest(CallCase):

    def test_a_number_comes_out_as_it_is(self):
        for text in ("0", "7", "_7", str(TOP), "_%d" % TOP):
            self.assert_value(disclose, text, text)
            self.assert_value(disclose, "[: [: %s]]" % text, text)

    def test_arrays_of_the_empty_shape(self):
        for text in ("[2: 5 6]", "[1: 5]", "[0:]", "[0 3:]", "[2 2: 1 2 3 4]", "[: [1: 5]]", "[: [: [0:]]]", MANY):
            self.assert_value(disclose, "[: %s]" % text, text)

    def test_rank(self):
        for text in ("[1: 5]", "[1: [: [1: 5]]]", "[0:]", "[3: 1 2 3]", "[1 1: 5]", "[0 0:]", "[1 1 1 1: 5]", MANY):
            self.assert_answer(disclose, text, [RANK])

    def test_rank_stands_behind_the_refusals_of_the_text(self):
        self.assert_answer(disclose, "[1: 5]" + " " * 8187, [LONG])
        self.assert_answer(disclose, "[1: 5", [FORM])
        self.assert_answer(disclose, "[1: %d]" % (TOP + 1), [BIG])
        self.assert_answer(disclose, "[2: 5]", [SHAPE])
        self.assert_answer(disclose, chain(9), [LIMIT])
        self.assert_answer(disclose, sized(513), [LIMIT])
        self.assert_answer(disclose, chain(8), [RANK])
        self.assert_answer(disclose, sized(512), [RANK])

    def test_it_takes_back_what_enclose_does(self):
        for text in ("5", "[1: 5]", "[0:]", chain(7), sized(511), MANY):
            self.assert_value(disclose, text_in(enclose(bytes_of(text))), text)


class ComeOutTest(CallCase):
    """Point 24's LIMIT as what comes out, and the words' sentence on it."""

    def test_values_that_may_come_out(self):
        within = (5, NestedArray([0], []), NestedArray([256], [1] * 256), NestedArray([1, 1, 1, 1], [5]),
                  NestedArray([0, 256], []))
        for value in within:
            self.assertIs(come_out(value), value)

    def test_shapes_that_are_none(self):
        beyond = (NestedArray([257], [1] * 257), NestedArray([1, 1, 1, 1, 1], [5]), NestedArray([0, 257], []))
        for value in beyond:
            for whole in (value, NestedArray([2], [1, value]), NestedArray([1], [NestedArray([], [value])])):
                with self.assertRaises(LimitRefusal):
                    come_out(whole)

    def test_depth_and_size(self):
        deep = 5
        for depth in range(1, 10):
            deep = NestedArray([1], [deep])
            if depth == 8:
                self.assertIs(come_out(deep), deep)
        with self.assertRaises(LimitRefusal):
            come_out(deep)
        halves = [NestedArray([256], [1] * 256), NestedArray([253], [1] * 253)]
        whole = NestedArray([2], halves)
        self.assertIs(come_out(whole), whole)
        with self.assertRaises(LimitRefusal):
            come_out(NestedArray([3], halves + [1]))
