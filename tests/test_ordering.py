"""Promises 9 to 13: ravel, same, like, order, sort."""

import itertools

from nestarray.desk import like, order, ravel, same, skeleton, sort
from tests.support import BIG, FIRST_REFUSED, FORM, LIMIT, LONG, RANK, SHAPE, TOP, CallCase
from tests.support import bytes_of, chain, handed_over, sized, vector

PAIR_CALLS = (same, like, order)

# Values in their order, each before all that stand behind it.
ASCENDING = (
    # numbers stand before arrays, the smaller one first
    "_%d" % TOP, "_%d" % (TOP - 1), "_10", "_9", "_1", "0", "1", "9", "10", str(TOP - 1), str(TOP),
    # rank 0, by the item: its rank, its extents, its items
    "[: [: [1: 5]]]", "[: [0:]]", "[: [1: _5]]", "[: [1: 5]]", "[: [1: [: [0:]]]]", "[: [1: [0:]]]",
    "[: [2: 0 0]]", "[: [0 0:]]",
    # rank 1, by the extent ahead of all items, then by the first items that differ
    "[0:]", "[1: _%d]" % TOP, "[1: 5]", "[1: %d]" % TOP, "[1: [: [: [0:]]]]", "[1: [: [0:]]]", "[1: [0:]]",
    "[1: [1: _1]]", "[1: [1: [1: 3]]]", "[1: [1: [1: 4]]]", "[1: [1: [1: [0:]]]]", "[1: [2: 0 0]]", "[1: [0 0:]]",
    "[2: _1 [0:]]", "[2: 0 0]", "[2: 0 5]", "[2: 0 [0:]]", "[2: 1 _%d]" % TOP, "[2: 1 0]", "[2: [0:] 0]",
    "[2: [2: 1 [2: 2 3]] 9]", "[2: [2: 1 [2: 2 4]] 0]", "[2: [2: 1 [3: 0 0 0]] 0]", "[2: [2: 2 [0:]] 0]",
    "[3: 0 0 0]", "[10:" + " 0" * 10 + "]", "[255:" + " 9" * 255 + "]", "[256:" + " _9" * 256 + "]",
    # rank 2: the first place where the extents differ counts, not how many items there are
    "[0 0:]", "[0 1:]", "[0 2:]", "[0 256:]", "[1 0:]", "[1 1: _4]", "[1 1: 9]", "[1 2: 9 9]",
    "[1 256:" + " 1" * 256 + "]",
    "[2 0:]", "[2 1: _9 _9]", "[2 2: 1 2 3 4]", "[2 2: 1 2 3 5]", "[2 2: 1 2 4 0]", "[2 2: 1 3 0 0]",
    "[2 2: [0:] 0 0 0]", "[256 0:]",
    # ranks 3 and 4
    "[0 0 0:]", "[0 2 9:]", "[1 1 1: [1 1 1: 5]]", "[2 1 0:]", "[2 1 1: 0 0]", "[2 2 0:]",
    "[0 0 0 0:]", "[0 0 0 1:]", "[1 1 1 1: 0]", "[1 1 1 1: [0 0 0 0:]]", "[1 1 1 2: 0 0]",
    "[2 2 2 2:" + " 0" * 16 + "]",
)

# Two texts each: of the same value, of values of the same skeleton, of values of unlike skeletons.
SAME = (
    ("5", "[: 5]"), ("5", " [ : [:5]\t]\n"), ("_5", "[:_5]"), ("0", "0\r"), ("[0:]", "[ 0 :]"),
    ("[2 2: 1 _2 3 4]", "[2\n2:1_2 3\t4]"), ("[: [1: 5]]", "[:[1:[:5]]]"),
    ("[2: [: 1] [1: 2]]", "[2: 1 [1: [: 2]]]"),
    ("[1: " * 8 + "5" + "]" * 8, "[1:" * 8 + "[:" * 2000 + "5" + "]" * 2008),
    (chain(8), chain(8)), (sized(512), sized(512)),
)
ALIKE = (
    ("5", "_7"), ("%d" % TOP, "_%d" % TOP), ("[: 5]", "0"), ("[3: 1 2 3]", "[3: 4 _5 0]"),
    ("[2 2: 1 2 3 4]", "[2 2:0 0 0 0]"), ("[: [2: 5 6]]", "[: [2: 6 5]]"),
    ("[2: 1 [2: [: 2] [1: 3]]]", "[2: [: 9] [2: 9 [1: 9]]]"),
    (chain(8), chain(8).replace("7", "8")), (sized(512), sized(512).replace(" 1", " 3")),
    ("[2: [0:] 1]", "[2: [0:] 2]"),
)
NOT_ALIKE = (
    ("5", "[0:]"), ("0", "[1: 0]"), ("0", "[: [0:]]"), ("[1: 0]", "[: [1: 0]]"), ("[0:]", "[0 0:]"),
    ("[0 3:]", "[3 0:]"), ("[0:]", "[1: 0]"), ("[4: 0 0 0 0]", "[2 2: 0 0 0 0]"), ("[1 2: 0 0]", "[2 1: 0 0]"),
    ("[1: [1: 0]]", "[1: 0]"), ("[2: 0 [1: 0]]", "[2: [1: 0] 0]"), ("[1: [0:]]", "[1: [0 0:]]"), (chain(8), chain(7)),
    ("[2: 1 [2: [1: 2] 3]]", "[2: 1 [2: 2 [1: 3]]]"), ("[: [: [1: 5]]]", "[: [1: 5]]"),
    ("[1: [1: [: [1: 5]]]]", "[1: [1: [1: 5]]]"),
)


class RavelTest(CallCase):

    def test_refusals_of_a_text(self):
        self.assert_looks_at_text(ravel)

    def test_nothing_is_kept(self):
        for text in ("7", "[2: 1 [2: 2 3]]", "[2 2: 1 2 3 4]", "[: 5]", "[0:", chain(9)):
            self.assert_keeps_nothing(ravel, text)

    def test_numbers(self):
        for text in ("0", "7", "_7", str(TOP), "_%d" % TOP):
            self.assert_value(ravel, text, "[1: %s]" % text)
            self.assert_value(ravel, "[: [: %s]]" % text, "[1: %s]" % text)

    def test_a_vector_comes_out_as_it_is(self):
        for text in ("[0:]", "[1: 5]", "[3: 4 _5 6]", "[2: 1 [2: 2 3]]", "[2: [2 2: 1 2 3 4] [: [0:]]]",
                     chain(8), sized(512)):
            self.assert_value(ravel, text, text)

    def test_the_empty_shape(self):
        for text in ("[2: 5 6]", "[1: 5]", "[0:]", "[0 3:]", "[2 2: 1 2 3 4]", "[: [1: 5]]", chain(7)):
            self.assert_value(ravel, "[: %s]" % text, "[1: %s]" % text)

    def test_other_ranks(self):
        self.assert_value(ravel, "[2 2: 1 _2 3 4]", "[4: 1 _2 3 4]")
        self.assert_value(ravel, "[3 2: 1 2 3 4 5 6]", "[6: 1 2 3 4 5 6]")
        self.assert_value(ravel, "[1 1: 5]", "[1: 5]")
        self.assert_value(ravel, "[2 1: [2 2: 1 2 3 4] [: 5]]", "[2: [2 2: 1 2 3 4] 5]")
        self.assert_value(ravel, "[1 3 2: 6 5 4 3 2 1]", "[6: 6 5 4 3 2 1]")
        self.assert_value(ravel, "[2 1 2 1: 1 [: [1: _2]] [0 3:] [1 1: 4]]", "[4: 1 [: [1: _2]] [0 3:] [1 1: 4]]")

    def test_arrays_without_items(self):
        for text in ("[0 0:]", "[0 3:]", "[3 0:]", "[256 0:]", "[2 0 3:]", "[0 0 0 256:]"):
            self.assert_value(ravel, text, "[0:]")

    def test_as_many_items_as_may_be(self):
        for extents in ("256", "16 16", "1 256", "256 1", "2 128", "4 4 16", "4 4 4 4", "1 1 1 256"):
            self.assert_value(ravel, "[%s:%s]" % (extents, " 7" * 256), "[256:%s]" % (" 7" * 256))

    def test_as_large_and_as_deep_as_may_be(self):
        halves = [vector(["1"] * 256), vector(["_2"] * 253)]
        self.assert_value(ravel, "[1 2: %s]" % " ".join(halves), vector(halves))
        self.assert_value(ravel, "[2 1: %s]" % " ".join(halves), vector(halves))
        self.assert_value(ravel, "[: %s]" % sized(511), "[1: %s]" % sized(511))
        self.assert_value(ravel, "[1 1 1 1: %s]" % chain(7), chain(8))
        self.assert_value(ravel, "[: " * 7 + "[0 0:]" + "]" * 7, "[1: " + "[: " * 6 + "[0 0:]" + "]" * 7)
        self.assert_answer(ravel, "[1 1: %s]" % chain(8), [LIMIT])
        self.assert_answer(ravel, "[1 1: %s]" % sized(512), [LIMIT])
        self.assert_answer(ravel, "[: %s]" % sized(512), [LIMIT])


class PairTest(CallCase):
    """What holds of same, like and order alike."""

    def test_refusals_of_each_text(self):
        for call in PAIR_CALLS:
            self.assert_looks_at_text(call, behind=("5",))
            self.assert_looks_at_text(call, before=("[2: 1 [2: 2 3]]",))

    def test_the_first_text_is_refused_ahead_of_the_second(self):
        self.assertEqual([refusal for text, refusal in FIRST_REFUSED], [LONG, FORM, BIG, SHAPE, LIMIT])
        for call in PAIR_CALLS:
            for text, refusal in FIRST_REFUSED:
                for other, other_refusal in FIRST_REFUSED:
                    self.assert_answer(call, (text, other), [refusal])

    def test_nothing_is_kept(self):
        asked = (("5", "[: 5]"), ("[2: 1 2]", "[2: 1 3]"), ("[0:]", "[0 0:]"), ("[2: 1 [0:]]", "7"), ("[0:", "5"),
                 ("5", chain(9)))
        between = (("[2: 1", "5"), ("5", "[2: 1"), ("[1: 4]", "[1: [: 4]]"), ("1", "0"))
        for call in PAIR_CALLS:
            for pair in asked:
                self.assert_keeps_nothing(call, pair, between)

    def test_one_list_handed_in_for_both(self):
        for text in ("5", "[2: 1 [2: 2 3]]", "[0 3:]"):
            handed = bytes_of(text)
            self.assertEqual([same(handed, handed), like(handed, handed), order(handed, handed)], [[1], [1], [0]])
            self.assertEqual(handed, bytes_of(text))


class SameTest(CallCase):

    def test_values_that_are_the_same(self):
        for text in ASCENDING:
            self.assert_answer(same, (text, text), [1])
        for one, other in SAME:
            self.assert_answer(same, (one, other), [1])
            self.assert_answer(same, (other, one), [1])

    def test_values_that_are_not(self):
        for place, text in enumerate(ASCENDING):
            for other_place, other in enumerate(ASCENDING):
                self.assertEqual(same(*handed_over((text, other))), [int(place == other_place)], (text, other))
        for one, other in NOT_ALIKE:
            self.assert_answer(same, (one, other), [0])
            self.assert_answer(same, (other, one), [0])


class LikeTest(CallCase):

    def test_values_that_are_alike(self):
        for one, other in SAME + ALIKE:
            self.assert_answer(like, (one, other), [1])
            self.assert_answer(like, (other, one), [1])

    def test_values_that_are_not(self):
        for one, other in NOT_ALIKE:
            self.assert_answer(like, (one, other), [0])
            self.assert_answer(like, (other, one), [0])

    def test_like_is_the_same_of_skeletons(self):
        skeletons = [skeleton(bytes_of(text))[1:] for text in ASCENDING]
        for text, bare in zip(ASCENDING, skeletons):
            for other, other_bare in zip(ASCENDING, skeletons):
                self.assertEqual(like(bytes_of(text), bytes_of(other)), [int(bare == other_bare)], (text, other))


class OrderTest(CallCase):

    def test_values_that_are_the_same(self):
        for one, other in SAME:
            self.assert_answer(order, (one, other), [0])
            self.assert_answer(order, (other, one), [0])

    def test_every_pair_both_ways_round(self):
        for place, text in enumerate(ASCENDING):
            for other_place, other in enumerate(ASCENDING):
                answer = 0 if place == other_place else 1 if place < other_place else 2
                self.assertEqual(order(*handed_over((text, other))), [answer], (text, other))

    def test_pairs(self):
        pairs = (
            ("_1", "1"), ("5", "[0:]"), (str(TOP), "[: [0:]]"), ("_%d" % TOP, str(TOP)), ("9", "10"), ("_10", "_9"),
            ("[1: 9]", "[2: 0 0]"), ("[1 9:" + " 9" * 9 + "]", "[9 1:" + " 0" * 9 + "]"),
            ("[9: 9 9 9 9 9 9 9 9 9]", "[0 0:]"),
            ("[2: 1 [1: 9]]", "[2: 2 0]"), ("[2: [1: 1] 9]", "[2: [1: 2] 0]"),
            ("[2: 9 [1: 0]]", "[2: [1: 0] 9]"),
            (chain(8), chain(8).replace("7", "8")), (chain(7).replace("7", "[0:]"), chain(7).replace("7", "[1: 0]")),
            (sized(512), sized(512)[:-4] + "1]]"),
        )
        for one, other in pairs:
            self.assert_answer(order, (one, other), [1])
            self.assert_answer(order, (other, one), [2])


class SortTest(CallCase):

    def test_refusals_of_a_text(self):
        self.assert_looks_at_text(sort)

    def test_nothing_is_kept(self):
        for text in ("[3: 2 1 3]", "[2: [2: 2 3] 1]", "[0:]", "7", "[0:", chain(9)):
            self.assert_keeps_nothing(sort, text)

    def test_rank(self):
        for text in ("0", "_7", "[: 5]", "[: [2: 2 1]]", "[: [0:]]", "[1 1: 5]", "[2 1: 2 1]", "[1 2: 2 1]", "[0 0:]",
                     "[3 0:]", "[1 1 1: 5]", "[0 3 0:]", "[1 1 1 2: 2 1]", "[0 0 0 0:]", "[: %s]" % chain(7),
                     "[2 128:%s]" % (" 1" * 256)):
            self.assert_answer(sort, text, [RANK])

    def test_rank_stands_behind_the_refusals_of_the_text(self):
        self.assert_answer(sort, "5" + " " * 8192, [LONG])
        self.assert_answer(sort, "[1 1: 5", [FORM])
        self.assert_answer(sort, "[1 1: %d]" % (TOP + 1), [BIG])
        self.assert_answer(sort, "[1 2: 5]", [SHAPE])
        self.assert_answer(sort, "[1 1: %s]" % chain(8), [LIMIT])

    def test_vectors_of_numbers(self):
        self.assert_value(sort, "[0:]", "[0:]")
        self.assert_value(sort, "[1: _5]", "[1: _5]")
        self.assert_value(sort, "[2: 2 1]", "[2: 1 2]")
        self.assert_value(sort, "[6: 10 9 _9 0 _10 1]", "[6: _10 _9 0 1 9 10]")
        self.assert_value(sort, "[5: %d 0 _%d 1 _1]" % (TOP, TOP), "[5: _%d _1 0 1 %d]" % (TOP, TOP))
        self.assert_value(sort, "[3: [: 3] [: [: 2]] 1]", "[3: 1 2 3]")

    def test_vectors_of_arrays(self):
        self.assert_value(sort, "[2: [2: 2 1] [2: 1 9]]", "[2: [2: 1 9] [2: 2 1]]")
        self.assert_value(sort, "[3: [0 0:] [2: 2 1] [: [0:]]]", "[3: [: [0:]] [2: 2 1] [0 0:]]")
        self.assert_value(sort, "[3: [2: 1 1] [1: 9] [0:]]", "[3: [0:] [1: 9] [2: 1 1]]")
        self.assert_value(sort, "[1: [2: 2 1]]", "[1: [2: 2 1]]")
        self.assert_value(sort, "[2: [1: [2: 4 3]] [1: [2: 3 5]]]", "[2: [1: [2: 3 5]] [1: [2: 4 3]]]")

    def test_vectors_of_both(self):
        self.assert_value(sort, "[4: [0:] 5 [: [1: 1]] _5]", "[4: _5 5 [: [1: 1]] [0:]]")
        self.assert_value(sort, "[3: [1: _9] %d 0]" % TOP, "[3: 0 %d [1: _9]]" % TOP)

    def test_equal_items(self):
        self.assert_value(sort, "[5: 2 1 2 1 2]", "[5: 1 1 2 2 2]")
        self.assert_value(sort, "[4: 3 3 3 3]", "[4: 3 3 3 3]")
        self.assert_value(sort, "[5: [0:] 1 [0:] [: 1] [ 0 : ]]", "[5: 1 1 [0:] [0:] [0:]]")
        self.assert_value(sort, "[4: [2: 1 2] [2: 1 1] [2: 1 2] [2: 1 1]]", "[4: [2: 1 1] [2: 1 1] [2: 1 2] [2: 1 2]]")

    def test_every_way_round(self):
        parts = ("_3", "4", "[: [1: 9]]", "[1: [0:]]", "[2: 0 _1]", "[1 1: 2]")
        for mixed in itertools.permutations(parts):
            self.assertEqual(sort(bytes_of(vector(mixed))), [0] + bytes_of(vector(parts)), mixed)

    def test_many_values(self):
        parts = [text for text in ASCENDING if len(text) < 60]
        self.assertGreater(len(parts), 70)
        for step in (1, 2, 3, 5, 7):
            mixed = [part for start in range(step) for part in parts[start::step]]
            self.assert_value(sort, vector(mixed), vector(parts))
            self.assert_value(sort, vector(mixed[::-1]), vector(parts))

    def test_256_items(self):
        ascending = vector([str(number) for number in range(1000, 1256)])
        for factor in (1, 3, 77, 129, 255):
            for start in (0, 5):
                mixed = [str(1000 + (start + factor * place) % 256) for place in range(256)]
                self.assert_value(sort, vector(mixed), ascending)
        self.assert_value(sort, vector(["2", "1"] * 128), vector(["1"] * 128 + ["2"] * 128))
        self.assert_value(sort, vector(["[0:]", "1"] * 128), vector(["1"] * 128 + ["[0:]"] * 128))

    def test_as_large_and_as_deep_as_may_be(self):
        halves = [vector(["1"] * 256), vector(["_2"] * 253)]
        self.assert_value(sort, vector(halves), vector(halves[::-1]))
        self.assert_value(sort, vector([chain(7), "[1: 6]", "9"]), vector(["9", "[1: 6]", chain(7)]))
