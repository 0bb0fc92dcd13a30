"""Promises 2 to 4: plain, measure and shape, and how a text is looked at."""

import itertools

from nestarray.desk import measure, plain, shape, where
from tests.support import FORM, LIMIT, SHAPE, TOP, CallCase, bytes_of, chain, sized, vector

CALLS = (plain, measure, shape)


class LookTest(CallCase):

    def test_refusals_of_a_text(self):
        for call in CALLS:
            self.assert_looks_at_text(call)

    def test_nothing_is_kept(self):
        for call in CALLS:
            for text in ("[2: 1 [2: 2 3]]", "[: 5]", "[0:", chain(9)):
                self.assert_keeps_nothing(call, text)

    def test_form_is_refused_where_where_tells_a_position(self):
        for signs in itertools.product("[:]_01 ", repeat=5):
            text = bytes_of("".join(signs))
            refused = plain(text) == [FORM]
            self.assertEqual(refused, where(text) != [0], text)

    def test_length_of_8192(self):
        text = "[1: 7]" + " " * 8186
        self.assert_value(plain, text, "[1: 7]")
        self.assert_answer(measure, text, [1, 1, 2, 1])
        self.assert_answer(shape, text, [0, 1])


class PlainTest(CallCase):

    def test_texts_come_out_as_they_are(self):
        for text in ("0", "7", "_7", "10", "_305", "[2 2: 1 _2 3 4]", "[0:]", "[: [2: 5 6]]",
                     "[3: 1 [0:] [1: 7]]", "[0 5:]", "[5 0 3:]", "[1 1 1 1: _9]", "[2: 1 [2: 2 3]]",
                     "[: [: [0 0 0 0:]]]", "[2 1 2: 1 [: [1: 2]] [0:] _4]"):
            self.assert_value(plain, text, text)

    def test_blanks_are_set_anew(self):
        self.assert_value(plain, "\t7\n", "7")
        self.assert_value(plain, "[2 2:1_2 3\r\n4]", "[2 2: 1 _2 3 4]")
        self.assert_value(plain, " [ 2\t2\n:\r1 2  3 4 ] ", "[2 2: 1 2 3 4]")
        self.assert_value(plain, "[ 0 : ]", "[0:]")
        self.assert_value(plain, "[2:[0:][0:]]", "[2: [0:] [0:]]")
        self.assert_value(plain, "[:[0:]]", "[: [0:]]")

    def test_numbers_at_the_edges(self):
        for text in (str(TOP), "_%d" % TOP, str(TOP - 1), "_%d" % (TOP - 1), "9" * 18, "_" + "9" * 18):
            self.assert_value(plain, text, text)
            self.assert_value(plain, "[2: 0 %s]" % text, "[2: 0 %s]" % text)

    def test_the_empty_shape_of_a_number_is_the_number(self):
        self.assert_value(plain, "[: 5]", "5")
        self.assert_value(plain, "[:_5]", "_5")
        self.assert_value(plain, "[: [: 5]]", "5")
        self.assert_value(plain, "[: [: [1: [: [: 5]]]]]", "[: [: [1: 5]]]")
        self.assert_value(plain, "[2: [: 1] [: [: 2]]]", "[2: 1 2]")
        self.assert_value(plain, "[1: [: 5]]", "[1: 5]")
        self.assert_value(plain, "[1: " * 8 + "[: [: 5]]" + "]" * 8, "[1: " * 8 + "5" + "]" * 8)

    def test_as_deep_as_the_bytes_allow(self):
        self.assert_value(plain, "[:" * 2730 + "5" + "]" * 2730, "5")
        self.assert_value(plain, "[1:" + "[:" * 2729 + "5" + "]" * 2730, "[1: 5]")
        self.assert_answer(plain, "[:" * 2730 + "_" + "]" * 2730, [FORM])
        self.assert_answer(plain, "[:" * 2000 + "[1:]" + "]" * 2000, [SHAPE])
        self.assert_answer(plain, "[0" * 4096, [FORM])

    def test_the_plain_text_is_plain(self):
        for text in ("[2 2:1_2 3\t4]", "[:[:[1:[:5]]]]", " [ 0 : ]", sized(512)):
            first = plain(bytes_of(text))
            self.assertEqual(first[0], 0)
            self.assertEqual(plain(first[1:]), first)


class ExtentsTest(CallCase):

    def test_extents_at_the_edges(self):
        self.assert_answer(shape, "[1 1 1 1: 5]", [0, 1, 1, 1, 1])
        self.assert_answer(shape, "[256:" + " 1" * 256 + "]", [0, 256])
        self.assert_answer(shape, "[4 4 4 4:" + " 1" * 256 + "]", [0, 4, 4, 4, 4])
        self.assert_answer(shape, "[2 128:" + " 1" * 256 + "]", [0, 2, 128])
        self.assert_answer(shape, "[256 0:]", [0, 256, 0])
        self.assert_answer(shape, "[0 256:]", [0, 0, 256])
        self.assert_answer(shape, "[16 0 16:]", [0, 16, 0, 16])
        self.assert_answer(shape, "[0 0 0 0:]", [0, 0, 0, 0, 0])
        self.assert_answer(shape, "[0:]", [0, 0])

    def test_extents_beyond_the_edges(self):
        self.assert_answer(shape, "[1 257:" + " 1" * 257 + "]", [SHAPE])
        self.assert_answer(shape, "[2 0 129 0:]", [SHAPE])
        self.assert_answer(shape, "[16 17 0:]", [SHAPE])
        self.assert_answer(shape, "[0 %d:]" % TOP, [SHAPE])
        self.assert_answer(shape, "[1: [1 1 1 1 1: 5]]", [SHAPE])

    def test_shape_of_other_values(self):
        self.assert_answer(shape, "5", [0])
        self.assert_answer(shape, "[: 5]", [0])
        self.assert_answer(shape, "[: [2: 5 6]]", [0])
        self.assert_answer(shape, "[2 3: 1 2 3 4 5 6]", [0, 2, 3])
        self.assert_answer(shape, "[3 2: 1 2 3 4 5 6]", [0, 3, 2])
        self.assert_answer(shape, "[1: [2 2: 1 2 3 4]]", [0, 1])


class MeasureTest(CallCase):

    def test_example(self):
        self.assert_answer(measure, "[2: 1 [2: 2 3]]", [2, 1, 5, 3])

    def test_numbers(self):
        for text in ("0", "_7", str(TOP), "[: 5]", "[: [: 5]]"):
            self.assert_answer(measure, text, [0, 0, 1, 1])

    def test_arrays(self):
        self.assert_answer(measure, "[0:]", [1, 1, 1, 0])
        self.assert_answer(measure, "[0 3 0:]", [1, 3, 1, 0])
        self.assert_answer(measure, "[2 2: 1 _2 3 4]", [1, 2, 5, 4])
        self.assert_answer(measure, "[: [2: 5 6]]", [2, 0, 4, 2])
        self.assert_answer(measure, "[: [0:]]", [2, 0, 2, 0])
        self.assert_answer(measure, "[3: 1 [0:] [1: 7]]", [2, 1, 5, 2])
        self.assert_answer(measure, "[3: [1: [1: 7]] 1 [0:]]", [3, 1, 6, 2])
        self.assert_answer(measure, "[1 2 1 1: 1 [: [1: [: 5]]]]", [3, 4, 5, 2])

    def test_depths_at_the_edge(self):
        self.assert_answer(measure, chain(8), [8, 1, 9, 1])
        self.assert_answer(measure, chain(9), [LIMIT])
        self.assert_answer(measure, "[1: " * 7 + "[0:]" + "]" * 7, [8, 1, 8, 0])
        self.assert_answer(measure, "[: " * 7 + "[0:]" + "]" * 7, [8, 0, 8, 0])
        self.assert_answer(measure, "[: " * 8 + "[0:]" + "]" * 8, [LIMIT])
        self.assert_answer(measure, "[2: " + chain(7) + " 5]", [8, 1, 10, 2])
        self.assert_answer(measure, "[2: " + chain(8) + " 5]", [LIMIT])

    def test_sizes_at_the_edge(self):
        self.assert_answer(measure, sized(512), [2, 1, 512, 509])
        self.assert_answer(measure, sized(513), [LIMIT])
        without_numbers = vector([vector(["[0:]"] * 255), vector(["[0:]"] * 254)])
        self.assert_answer(measure, without_numbers, [3, 1, 512, 0])
        self.assert_answer(measure, "[: %s]" % sized(511), [3, 0, 512, 508])
        self.assert_answer(measure, "[: %s]" % sized(512), [LIMIT])

    def test_numbers_in_empty_shapes_count_once(self):
        parts = ["[: 1]"] * 256, ["[: [: 1]]"] * 253
        text = "[2:%s%s]" % (vector(parts[0]).replace(" ", ""), vector(parts[1]).replace(" ", ""))
        self.assert_answer(measure, text, [2, 1, 512, 509])
