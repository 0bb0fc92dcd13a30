"""What the document says of all calls: the interface, the example, and what holds of every answer."""

import contextlib
import inspect
import io
import pathlib
import subprocess
import sys

from nestarray import desk
from tests.support import DATA, FIRST_REFUSED, FORM, LIMIT, LONG, SHAPE, TOP, CallCase, chain, handed_over, sized
from tests.support import text_in, vector

ROOT = pathlib.Path(__file__).resolve().parent.parent

# Of each call its arguments' names, and something that it's asked and answers without a refusal.
CALLS = (
    ("where", "v", ("[2: 1 [2: 2 3]]",)),
    ("plain", "v", ("[2: 1 [2: 2 3]]",)),
    ("measure", "v", ("[2: 1 [2: 2 3]]",)),
    ("shape", "v", ("[2 2: 1 2 3 4]",)),
    ("leaves", "v", ("[2: 1 [2: 2 3]]",)),
    ("skeleton", "v", ("[2: 1 [2: 2 3]]",)),
    ("enclose", "v", ("[2: 1 [2: 2 3]]",)),
    ("disclose", "v", ("[: [2: 1 2]]",)),
    ("ravel", "v", ("[2 2: 1 2 3 4]",)),
    ("same", "v w", ("[2: 1 2]", "[2: 1 2]")),
    ("like", "v w", ("[2: 1 2]", "[2: 3 4]")),
    ("order", "v w", ("[2: 1 2]", "[2: 1 3]")),
    ("sort", "v", ("[3: 3 [0:] 1]",)),
    ("pick", "v path", ("[2: 1 [2: 2 3]]", [1, 1, 1, 0])),
    ("replace", "v path w", ("[2: 1 [2: 2 3]]", [1, 1, 1, 0], "[0:]")),
    ("each", "k v", (1, "[2: 1 [2: 2 3]]")),
    ("pervade1", "k v", (0, "[: [1: 5]]")),
    ("pervade", "k v w", (0, "[2: 1 [2: 2 3]]", "[2: 10 20]")),
    ("split", "v", ("[2 2: 1 2 3 4]",)),
    ("mix", "v", ("[2: [2: 1 2] [2: 3 4]]",)),
    ("pack", "v lengths", ("[3: 4 5 6]", [2, 0, 1])),
    ("raze", "v", ("[3: [2: 4 5] [0:] [1: 6]]",)),
    ("flat", "d v", (2, "[3: [2: 4 5] [0:] [1: 6]]")),
    ("unflat", "d lists", (2, [4, 0, 2, 2, 3, 3, 4, 5, 6])),
)


def call_of(name):
    return getattr(desk, name)


def asked_with(asked, place, text):
    """What's asked, with another text in the place."""
    return asked[:place] + (text,) + asked[place + 1:]


class EveryCallTest(CallCase):

    def test_interface(self):
        for name, arguments, asked in CALLS:
            call = call_of(name)
            self.assertEqual((call.__module__, call.__name__), ("nestarray.desk", name))
            self.assertEqual(inspect.getfullargspec(call), inspect.FullArgSpec(
                arguments.split(), None, None, None, [], None, {}))

    def test_arguments_by_their_names(self):
        for name, arguments, asked in CALLS:
            call = call_of(name)
            named = dict(zip(arguments.split(), handed_over(asked)))
            self.assertEqual(call(**named), self.ask(call, asked))

    def test_answers(self):
        for name, arguments, asked in CALLS:
            self.assertGreaterEqual(self.ask(call_of(name), asked)[0], 0, name)

    def test_every_text_is_looked_at(self):
        for name, arguments, asked in CALLS:
            for place, argument in enumerate(arguments.split()):
                if argument in ("v", "w"):
                    for text, refusal in FIRST_REFUSED:
                        if name != "where":
                            self.assert_answer(call_of(name), asked_with(asked, place, text), [refusal])

    def test_the_text_of_v_is_looked_at_ahead_of_all_but_the_kind(self):
        others = {"w": "[2:", "path": [-1], "lengths": [-1]}
        for name, arguments, asked in CALLS:
            if name not in ("where", "unflat"):
                handed = tuple(others.get(argument, one) for argument, one in zip(arguments.split(), asked))
                for text, refusal in FIRST_REFUSED:
                    place = arguments.split().index("v")
                    self.assert_answer(call_of(name), asked_with(handed, place, text), [refusal])

    def test_texts_as_long_as_they_are_handed_over(self):
        for name, arguments, asked in CALLS:
            for place, argument in enumerate(arguments.split()):
                if argument in ("v", "w"):
                    for text in ("[" * 20000, "[1: " * 4000 + "]" * 4000, " " * 20000, "7" * 20000, "[:" * 10000):
                        self.assert_answer(call_of(name), asked_with(asked, place, text), [LONG])

    def test_bytes_that_are_no_signs(self):
        for name, arguments, asked in CALLS:
            for place, argument in enumerate(arguments.split()):
                if argument in ("v", "w"):
                    for byte in (0, 31, 44, 45, 127, 128, 160, 178, 255):
                        answer = [1] if name == "where" else [FORM]
                        self.assert_answer(call_of(name), asked_with(asked, place, [byte]), answer)

    def test_lists_as_long_as_they_are_handed_over(self):
        for number in (0, 1, -1, 2000, TOP, -TOP):
            for call, asked in ((desk.pick, ("[0:]", [number] * 2000)), (desk.replace, ("[0:]", [number] * 2000, "5")),
                                (desk.pack, ("[0:]", [number] * 2000)), (desk.unflat, (3, [number] * 2000))):
                self.assertLess(self.ask(call, asked)[0], 0)

    def test_the_order_of_the_calls_does_not_matter(self):
        rows = [(name, asked) for name, arguments, asked in CALLS]
        for text in ("[2:", "[1: [0:]]", "5", chain(9)):
            rows += [(name, asked_with(asked, arguments.split().index("v"), text))
                     for name, arguments, asked in CALLS if name != "unflat"]
        forth = [call_of(name)(*handed_over(asked)) for name, asked in rows]
        back = [call_of(name)(*handed_over(asked)) for name, asked in reversed(rows)]
        self.assertEqual(forth, back[::-1])

    def test_answers_are_lists_of_their_own(self):
        for name, arguments, asked in CALLS:
            self.assert_keeps_nothing(call_of(name), asked, (asked,))
            handed = handed_over(asked)
            call_of(name)(*handed).append(-99)
            self.assertEqual(handed, handed_over(asked))

    def test_nothing_is_printed(self):
        printed = io.StringIO()
        with contextlib.redirect_stdout(printed), contextlib.redirect_stderr(printed):
            for name, arguments, asked in CALLS:
                call_of(name)(*handed_over(asked))
                call_of(name)(*handed_over(tuple("[2:" if isinstance(one, str) else one for one in asked)))
        self.assertEqual(printed.getvalue(), "")

    def test_nothing_else_is_imported(self):
        told = ("import sys; before = set(sys.modules); import nestarray.desk; "
                "print(*sorted(name for name in set(sys.modules) - before if name.split('.')[0] != 'nestarray'))")
        shown = subprocess.run([sys.executable, "-B", "-c", told], cwd=ROOT, capture_output=True, text=True, check=True)
        self.assertEqual((shown.stdout, shown.stderr), ("\n", ""))


class ExampleTest(CallCase):

    def test_example_of_the_document(self):
        text = "[2: 1 [2: 2 3]]"
        self.assert_answer(desk.measure, text, [2, 1, 5, 3])
        self.assert_value(desk.each, (1, text), "[2: 1 2]")
        self.assert_value(desk.pervade, (0, text, "10"), "[2: 11 [2: 12 13]]")
        self.assert_value(desk.pervade, (0, text, "[2: 10 20]"), "[2: 11 [2: 22 23]]")
        self.assert_value(desk.pick, (text, [1, 1, 1, 0]), "2")
        self.assert_value(desk.replace, (text, [1, 1, 1, 0], "[0:]"), "[2: 1 [2: [0:] 3]]")
        self.assert_value(desk.split, "[2 2: 1 2 3 4]", "[2: [2: 1 2] [2: 3 4]]")
        self.assert_value(desk.mix, "[2: [2: 1 2] [2: 3 4]]", "[2 2: 1 2 3 4]")
        self.assert_value(desk.pack, ("[3: 4 5 6]", [2, 0, 1]), "[3: [2: 4 5] [0:] [1: 6]]")
        self.assert_answer(desk.flat, (2, "[3: [2: 4 5] [0:] [1: 6]]"), [0, 4, 0, 2, 2, 3, 3, 4, 5, 6])
        self.assert_value(desk.unflat, (2, [4, 0, 2, 2, 3, 3, 4, 5, 6]), "[3: [2: 4 5] [0:] [1: 6]]")
        self.assert_value(desk.enclose, "[1: 5]", "[: [1: 5]]")
        self.assert_value(desk.pervade1, (0, "[: [1: 5]]"), "[: [1: _5]]")

    def test_texts_of_the_words(self):
        for text in ("[2 2: 1 _2 3 4]", "[0:]", "[: [2: 5 6]]", "[3: 1 [0:] [1: 7]]"):
            self.assert_value(desk.plain, text, text)
        self.assert_value(desk.plain, "[: 5]", "5")


class OutcomeTest(CallCase):

    def test_what_comes_out_is_refused_by_each_limit(self):
        numbers = vector(["7"] * 256)
        for call, asked in (
                # too deep
                (desk.enclose, (chain(8),)), (desk.replace, (chain(1), [1, 0], chain(8))),
                (desk.split, ("[1 1: %s]" % chain(7),)), (desk.pack, (chain(8), [1])),
                # too large
                (desk.enclose, (sized(512),)), (desk.replace, ("[2: 1 2]", [1, 0], sized(512))),
                (desk.each, (2, numbers)), (desk.pervade, (0, numbers, "[: [1: 0]]")),
                (desk.split, ("[256 1:%s]" % (" 7" * 256),)), (desk.pack, (numbers, [1] * 256)),
                (desk.unflat, (2, [257] + list(range(257)) + [256] + [7] * 256)),
                # of a shape that isn't one
                (desk.mix, ("[1: [1 1 1 1: 5]]",)), (desk.mix, ("[2: [256 0:] [256 0:]]",)),
                (desk.pack, ("[0:]", [0] * 257)), (desk.raze, ("[2: 1 %s]" % numbers,)),
                (desk.unflat, (1, [257] + [7] * 257))):
            self.assert_answer(call, asked, [LIMIT])

    def test_works_that_take_one_another_back(self):
        for text in ("[0:]", "[3: 1 2 3]", "[2 3: 1 2 3 4 5 6]", "[3 0:]", "[2 2: 1 [2: 2 3] [: [1: 4]] [0 3:]]",
                     "[2 1 2: [0:] 2 _3 4]", "[1: [1: [0 2:]]]"):
            self.assert_value(desk.disclose, text_in(desk.enclose(*handed_over(text))), text)
            opposite = text_in(desk.pervade1(0, *handed_over(text)))
            self.assert_value(desk.pervade1, (0, opposite), text)
            twice = text_in(desk.pervade(0, *handed_over((text, text))))
            self.assert_value(desk.pervade, (1, twice, text), text)
            self.assert_answer(desk.like, (text, twice), [1])
        for text in ("[2 3: 1 2 3 4 5 6]", "[3 0:]", "[2 1 2: [0:] 2 _3 4]"):
            self.assert_value(desk.mix, text_in(desk.split(*handed_over(text))), text)
        for text, lengths in (("[0:]", [0, 0]), ("[3: 1 2 3]", [2, 0, 1]), ("[2: [1: 1] 2]", [1, 1])):
            self.assert_value(desk.raze, text_in(desk.pack(*handed_over((text, lengths)))), text)

    def test_a_number_comes_out_where_it_would_stand_alone(self):
        self.assert_value(desk.replace, ("[: [1: 5]]", [0], "7"), "7")
        self.assert_value(desk.each, (3, "[: [2: 5 6]]"), "11")
        self.assert_value(desk.each, (4, "[: [2: 5 6]]"), "1")
        self.assert_value(desk.each, (6, "[: [2: 5 6]]"), "5")
        self.assert_value(desk.pervade, (0, "[: [: 5]]", "6"), "11")
        self.assert_value(desk.pervade1, (0, "[: 5]"), "_5")
        self.assert_value(desk.mix, "[2: [: 5] [: [0:]]]", "[2: 5 [0:]]")

    def test_refusals_are_alone(self):
        for call, asked, refusal in ((desk.shape, ("[2: 1]",), SHAPE), (desk.unflat, (1, [2, 5]), DATA),
                                     (desk.leaves, (chain(9),), LIMIT), (desk.where, ("7" * 8193,), LONG)):
            self.assert_answer(call, asked, [refusal])
