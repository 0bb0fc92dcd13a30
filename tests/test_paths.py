"""Promises 14 and 15: pick and replace."""

from nestarray.desk import pick, replace
from tests.support import ATOM, FIRST_REFUSED, INDEX, LIMIT, PATH, SHAPE, TOP, CallCase
from tests.support import bytes_of, chain, sized, text_in, vector

EXAMPLE = "[2: 1 [2: 2 3]]"

# Rows of three; in them arrays of rank 0, without items, of rank 2, of rank 4.
MIXED = "[2 3: 1 [: [2: _2 [: [1: 3]]]] [0 3:] [2 2: 4 5 [1: 6] 7] 8 [1 2 1 2: 9 10 11 [: [0:]]]]"

# What a path leads to in MIXED.
LEADS = (
    ([], MIXED),
    ([2, 0, 0], "1"), ([2, 0, 1], "[: [2: _2 [: [1: 3]]]]"), ([2, 0, 2], "[0 3:]"),
    ([2, 1, 0], "[2 2: 4 5 [1: 6] 7]"), ([2, 1, 1], "8"), ([2, 1, 2], "[1 2 1 2: 9 10 11 [: [0:]]]"),
    ([2, 0, 1, 0], "[2: _2 [: [1: 3]]]"), ([2, 0, 1, 0, 1, 0], "_2"), ([2, 0, 1, 0, 1, 1], "[: [1: 3]]"),
    ([2, 0, 1, 0, 1, 1, 0], "[1: 3]"), ([2, 0, 1, 0, 1, 1, 0, 1, 0], "3"),
    ([2, 1, 0, 2, 0, 0], "4"), ([2, 1, 0, 2, 0, 1], "5"), ([2, 1, 0, 2, 1, 0], "[1: 6]"), ([2, 1, 0, 2, 1, 1], "7"),
    ([2, 1, 0, 2, 1, 0, 1, 0], "6"),
    ([2, 1, 2, 4, 0, 0, 0, 0], "9"), ([2, 1, 2, 4, 0, 0, 0, 1], "10"), ([2, 1, 2, 4, 0, 1, 0, 0], "11"),
    ([2, 1, 2, 4, 0, 1, 0, 1], "[: [0:]]"), ([2, 1, 2, 4, 0, 1, 0, 1, 0], "[0:]"),
)

# Lists of numbers that are no paths.
NO_PATHS = (
    [-1], [-TOP], [TOP], [1], [2, 0], [2, 0, 0, 1], [2, 0, 0, -1], [0, 0, 0, -1], [0, 1], [0, -1], [-1, 0], [-1, 0, 0],
    [3, 0, 0], [2, 0, 0, TOP], [2, 0, 0, TOP, 0], [2, 0, 0, -TOP], [2, 5, 5, 1], [1, 1, -2, 0, 0], [2000] + [0] * 1999,
    [0] * 1999 + [1], [0] * 1999 + [-1], [1, 0] * 999 + [2, 0], [1998] + [0] * 1998 + [1],
)

# A value, a path, and what the first step that's refused is refused with.
REFUSED_STEPS = (
    # each alone
    ("5", [0], ATOM), ("5", [1, 0], ATOM), ("[: 5]", [0], ATOM), ("[1: 5]", [1, 0, 0], ATOM),
    ("[1: 5]", [1, 0, 1, 0], ATOM),
    ("[1: 5]", [0], SHAPE), ("[1: 5]", [2, 0, 0], SHAPE), ("[1 1: 5]", [1, 0], SHAPE),
    ("[1 1: 5]", [3, 0, 0, 0], SHAPE), ("[: [1: 5]]", [1, 0], SHAPE), ("[: [1: 5]]", [0, 0], SHAPE),
    ("[1 1 1 1: 5]", [5, 0, 0, 0, 0, 0], SHAPE), ("[0:]", [0], SHAPE),
    ("[2: 5 6]", [1, 2], INDEX), ("[2: 5 6]", [1, -1], INDEX), ("[2: 5 6]", [1, TOP], INDEX),
    ("[2: 5 6]", [1, -TOP], INDEX), ("[0:]", [1, 0], INDEX), ("[0 3:]", [2, 0, 0], INDEX), ("[3 0:]", [2, 0, 0], INDEX),
    ("[2 3: 1 2 3 4 5 6]", [2, 2, 0], INDEX), ("[2 3: 1 2 3 4 5 6]", [2, 0, 3], INDEX),
    ("[2 3: 1 2 3 4 5 6]", [2, 1, -1], INDEX), ("[2 3: 1 2 3 4 5 6]", [2, -1, 3], INDEX),
    ("[2 3: 1 2 3 4 5 6]", [2, 1, -3], INDEX), ("[2 2: 1 2 3 4]", [2, 2, -2], INDEX),
    # two at once in one step
    ("5", [1, 9], ATOM), ("5", [1, -1], ATOM), ("5", [5, 0, 0, 0, 0, 0], ATOM), ("[1: 5]", [2, 9, 9], SHAPE),
    ("[2 2: 1 2 3 4]", [1, -1], SHAPE), ("[2 2: 1 2 3 4]", [3, 9, 0, 0], SHAPE), ("[: [1: 5]]", [1, 9], SHAPE),
    ("[0:]", [2, 0, 0], SHAPE),
    # the first step that's refused counts
    (EXAMPLE, [1, 0, 1, 0], ATOM), (EXAMPLE, [1, 1, 0], SHAPE), (EXAMPLE, [1, 1, 1, 2], INDEX),
    (EXAMPLE, [1, 1, 1, 0, 0], ATOM), (EXAMPLE, [1, 2, 1, 0, 0], INDEX), (EXAMPLE, [0, 1, 2], SHAPE),
    (EXAMPLE, [1, 0, 0, 1, 9], ATOM), (EXAMPLE, [1, 1, 2, 0, 0, 1, 9], SHAPE), (EXAMPLE, [1, 1, 1, 9, 0], INDEX),
    (EXAMPLE, [2, 0, 0, 1, 9], SHAPE), (EXAMPLE, [1, -1, 0, 0, 0], INDEX),
    # paths as long as a list may be
    ("5", [0] * 2000, ATOM), (EXAMPLE, [0] * 2000, SHAPE), (chain(8), [1, 0] * 1000, ATOM),
    (EXAMPLE, [1999] + [0] * 1999, SHAPE), ("7", [1999] + [0] * 1999, ATOM),
    ("[: " * 7 + "[0:]" + "]" * 7, [0] * 2000, SHAPE), ("[1: 5]", [1, 1] * 1000, INDEX),
)


class PickTest(CallCase):

    def test_refusals_of_the_text(self):
        self.assert_looks_at_text(pick, behind=([],))
        self.assert_looks_at_text(pick, behind=([1, 0, 1, 0],))

    def test_nothing_is_kept(self):
        between = (("[2: 1", [1, 1]), ("[: [0:]]", [0]), (EXAMPLE, [1, 0]))
        for path in ([], [1, 1], [1, 1, 1, 0], [1, 0, 0], [1], [2, 0, 0], [1, 2]):
            self.assert_keeps_nothing(pick, (EXAMPLE, path), between)

    def test_example(self):
        self.assert_value(pick, (EXAMPLE, [1, 1, 1, 0]), "2")

    def test_no_steps(self):
        for text in ("7", "[0:]", "[: [1: 5]]", EXAMPLE, MIXED, chain(8), sized(512)):
            self.assert_value(pick, (text, []), text)
        self.assert_value(pick, ("[: [: 5]]", []), "5")

    def test_steps(self):
        for path, text in LEADS:
            self.assert_value(pick, (MIXED, path), text)
        self.assert_value(pick, ("[: [: [1: [: 5]]]]", [0, 0, 1, 0]), "5")
        self.assert_value(pick, (chain(8), [1, 0] * 8), "7")
        self.assert_value(pick, (chain(8), [1, 0] * 3), chain(5))
        self.assert_value(pick, ("[: " * 7 + "[0:]" + "]" * 7, [0] * 7), "[0:]")

    def test_every_index(self):
        numbers = " ".join(str(number) for number in range(120))
        for extents in ((120,), (8, 15), (4, 5, 6), (2, 3, 4, 5), (1, 120), (120, 1), (5, 1, 24), (1, 1, 1, 120)):
            text = "[%s: %s]" % (" ".join(str(extent) for extent in extents), numbers)
            for number in range(0, 120, 7):
                index = []
                left = number
                for extent in reversed(extents):
                    index.insert(0, left % extent)
                    left //= extent
                self.assert_value(pick, (text, [len(index)] + index), str(number))

    def test_lists_that_are_no_paths(self):
        for path in NO_PATHS:
            for text in ("5", "[0:]", "[: [1: 5]]", EXAMPLE, MIXED):
                self.assert_answer(pick, (text, path), [PATH])

    def test_path_stands_behind_the_refusals_of_the_text(self):
        for text, refusal in FIRST_REFUSED:
            for path in NO_PATHS:
                self.assert_answer(pick, (text, path), [refusal])

    def test_steps_that_are_refused(self):
        for text, path, refusal in REFUSED_STEPS:
            self.assert_answer(pick, (text, path), [refusal])

    def test_path_stands_ahead_of_every_step(self):
        for text, path, refusal in REFUSED_STEPS:
            if len(path) < 2000:
                self.assert_answer(pick, (text, path + [-1]), [PATH])
                self.assert_answer(pick, (text, path + [1]), [PATH])


class ReplaceTest(CallCase):

    def test_refusals_of_the_first_text(self):
        self.assert_looks_at_text(replace, behind=([], "5"))
        self.assert_looks_at_text(replace, behind=([1], "["))

    def test_refusals_of_the_second_text(self):
        self.assert_looks_at_text(replace, before=(EXAMPLE, []))
        self.assert_looks_at_text(replace, before=(EXAMPLE, [1, 1, 1, 0]))

    def test_nothing_is_kept(self):
        between = (("[2: 1", [1, 1], "5"), ("[: [0:]]", [0], "3"), (EXAMPLE, [1, 0], "[0:]"),
                   (EXAMPLE, [1, 1, 1, 1], "["))
        for path in ([], [1, 1], [1, 1, 1, 0], [1, 0, 0], [1], [2, 0, 0], [1, 2]):
            for text in ("9", "[2: 7 8]", "[0", chain(8)):
                self.assert_keeps_nothing(replace, (EXAMPLE, path, text), between)

    def test_one_list_handed_in_for_both_texts(self):
        handed = bytes_of(EXAMPLE)
        self.assertEqual(replace(handed, [1, 0], handed), [0] + bytes_of("[2: %s [2: 2 3]]" % EXAMPLE))
        self.assertEqual(handed, bytes_of(EXAMPLE))

    def test_example(self):
        self.assert_value(replace, (EXAMPLE, [1, 1, 1, 0], "[0:]"), "[2: 1 [2: [0:] 3]]")

    def test_no_steps(self):
        for text in ("7", "[0:]", "[: [1: 5]]", EXAMPLE, MIXED, chain(8), sized(512)):
            self.assert_value(replace, (EXAMPLE, [], text), text)
            self.assert_value(replace, (text, [], EXAMPLE), EXAMPLE)
            self.assert_value(replace, ("4", [], text), text)
        self.assert_value(replace, (EXAMPLE, [], "[: [: 5]]"), "5")

    def test_steps(self):
        self.assert_value(replace, (EXAMPLE, [1, 0], "9"), "[2: 9 [2: 2 3]]")
        self.assert_value(replace, (EXAMPLE, [1, 1], "_9"), "[2: 1 _9]")
        self.assert_value(replace, (EXAMPLE, [1, 1, 1, 1], "[2 2: 4 5 6 7]"), "[2: 1 [2: 2 [2 2: 4 5 6 7]]]")
        self.assert_value(replace, (EXAMPLE, [1, 0], EXAMPLE), "[2: %s [2: 2 3]]" % EXAMPLE)
        self.assert_value(replace, ("[2 2: 1 2 3 4]", [2, 1, 0], "[: [0:]]"), "[2 2: 1 2 [: [0:]] 4]")
        self.assert_value(replace, ("[1: 5]", [1, 0], "[: [: 6]]"), "[1: 6]")
        self.assert_value(replace, ("[3: 5 5 5]", [1, 1], "6"), "[3: 5 6 5]")
        self.assert_value(replace, ("[2: [1: 5] [1: 5]]", [1, 1, 1, 0], "6"), "[2: [1: 5] [1: 6]]")

    def test_only_what_the_path_leads_to_is_replaced(self):
        mark = "[1: %d]" % TOP
        for path, text in LEADS:
            answer = self.ask(replace, (MIXED, path, mark))
            whole = text_in(answer)
            self.assertEqual((answer[0], len(whole)), (0, len(MIXED) - len(text) + len(mark)), path)
            self.assert_value(pick, (whole, path), mark)
            for other, other_text in LEADS:
                if other != path[:len(other)] and path != other[:len(path)]:
                    self.assert_value(pick, (whole, other), other_text)

    def test_a_number_as_the_item_of_an_array_of_rank_0(self):
        self.assert_value(replace, ("[: [1: 5]]", [0], "7"), "7")
        self.assert_value(replace, ("[: [0:]]", [0], "[: _7]"), "_7")
        self.assert_value(replace, ("[: [: [1: 5]]]", [0, 0], "7"), "7")
        self.assert_value(replace, ("[: [: [1: 5]]]", [0], "7"), "7")
        self.assert_value(replace, ("[: [: [1: 5]]]", [0, 0, 1, 0], "7"), "[: [: [1: 7]]]")
        self.assert_value(replace, ("[: " * 7 + "[0:]" + "]" * 7, [0] * 7, "7"), "7")
        self.assert_value(replace, ("[2: 1 [: [: [0 3:]]]]", [1, 1, 0, 0], "7"), "[2: 1 7]")
        self.assert_value(replace, ("[2: 1 [: [: [0 3:]]]]", [1, 1, 0], "7"), "[2: 1 7]")
        self.assert_value(replace, ("[: [1: [: [0:]]]]", [0, 1, 0, 0], "7"), "[: [1: 7]]")
        self.assert_value(replace, ("[: [1: [: [0:]]]]", [0], "[: [1: 7]]"), "[: [: [1: 7]]]")
        self.assert_value(replace, ("[: [1 1: 5]]", [0], "[0:]"), "[: [0:]]")

    def test_lists_that_are_no_paths(self):
        for path in NO_PATHS:
            for text in ("5", "[0:]", "[: [1: 5]]", EXAMPLE, MIXED):
                self.assert_answer(replace, (text, path, "5"), [PATH])

    def test_first_text_then_path_then_second_text(self):
        for text, refusal in FIRST_REFUSED:
            for path in NO_PATHS:
                self.assert_answer(replace, (text, path, "5"), [refusal])
                self.assert_answer(replace, (EXAMPLE, path, text), [PATH])
            for other, other_refusal in FIRST_REFUSED:
                self.assert_answer(replace, (text, [], other), [refusal])
                self.assert_answer(replace, (text, [1], other), [refusal])

    def test_steps_that_are_refused(self):
        for text, path, refusal in REFUSED_STEPS:
            self.assert_answer(replace, (text, path, "[2: 7 8]"), [refusal])

    def test_second_text_stands_ahead_of_every_step(self):
        for text, path, refusal in REFUSED_STEPS:
            for other, other_refusal in FIRST_REFUSED:
                self.assert_answer(replace, (text, path, other), [other_refusal])

    def test_path_stands_ahead_of_every_step(self):
        for text, path, refusal in REFUSED_STEPS:
            if len(path) < 2000:
                self.assert_answer(replace, (text, path + [-1], "5"), [PATH])
                self.assert_answer(replace, (text, path + [1], "["), [PATH])

    def test_depth_of_what_comes_out(self):
        self.assert_value(replace, (chain(7), [1, 0] * 7, "[1: 7]"), chain(8))
        self.assert_answer(replace, (chain(8), [1, 0] * 8, "[1: 7]"), [LIMIT])
        self.assert_answer(replace, (chain(8), [1, 0] * 8, "[0:]"), [LIMIT])
        self.assert_answer(replace, (chain(8), [1, 0] * 8, chain(8)), [LIMIT])
        self.assert_value(replace, ("[1: 5]", [1, 0], chain(7)), chain(8))
        self.assert_answer(replace, ("[1: 5]", [1, 0], chain(8)), [LIMIT])
        self.assert_answer(replace, ("[: [0:]]", [0], chain(8)), [LIMIT])
        self.assert_value(replace, (chain(8), [1, 0], chain(7)), chain(8))
        self.assert_value(replace, (chain(8), [], chain(8)), chain(8))
        self.assert_value(replace, (vector([chain(7), "5"]), [1, 1], chain(7)), vector([chain(7), chain(7)]))
        self.assert_answer(replace, (vector([chain(7), "5"]), [1, 1], chain(8)), [LIMIT])

    def test_size_of_what_comes_out(self):
        self.assert_value(replace, (sized(512), [1, 1, 1, 252], "[0:]"), sized(512)[:-5] + " [0:]]]")
        self.assert_answer(replace, (sized(512), [1, 1, 1, 252], "[1: 7]"), [LIMIT])
        self.assert_value(replace, (sized(511), [1, 1, 1, 251], "[1: 7]"), sized(511)[:-5] + " [1: 7]]]")
        self.assert_answer(replace, (sized(511), [1, 1, 1, 251], "[2: 7 8]"), [LIMIT])
        self.assert_answer(replace, (sized(512), [1, 1, 1, 252], sized(512)), [LIMIT])
        self.assert_value(replace, (sized(512), [1, 0], "5"), "[2: 5 %s]" % vector(["_2"] * 253))
        self.assert_value(replace, ("[2: 5 [0:]]", [1, 1], sized(510)), "[2: 5 %s]" % sized(510))
        self.assert_answer(replace, ("[2: 5 [0:]]", [1, 1], sized(511)), [LIMIT])
        self.assert_value(replace, (vector(["5"] * 256), [1, 255], vector(["6"] * 255)),
                          vector(["5"] * 255 + [vector(["6"] * 255)]))
        self.assert_answer(replace, (vector(["5"] * 256), [1, 255], vector(["6"] * 256)), [LIMIT])

    def test_what_comes_out_is_looked_at_behind_the_steps(self):
        self.assert_answer(replace, (sized(512), [1, 1, 1, 253], "[1: 7]"), [INDEX])
        self.assert_answer(replace, (chain(8), [1, 0] * 9, "[1: 7]"), [ATOM])
        self.assert_answer(replace, (chain(8), [1, 0] * 7 + [0], chain(8)), [SHAPE])
        self.assert_answer(replace, (chain(8), [1, 0] * 7 + [1], chain(8)), [PATH])
