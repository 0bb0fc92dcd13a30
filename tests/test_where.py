"""Promise 1: where."""

import itertools
import re

from nestarray.desk import where
from tests.support import LONG, CallCase, bytes_of, chain

IN_FORM = (
    "0", "7", "_7", "10", "_10", "1000000000000000001", "_" + "9" * 8191,
    "[2 2: 1 _2 3 4]", "[0:]", "[: [2: 5 6]]", "[3: 1 [0:] [1: 7]]", "[:]", "[: 5]", "[2: 1]",
    "[0: 1]", "[1 1 1 1 1 1: 5]", "[9999999999999999999:]", "[0 0:[0:][0:]]",
    "[2:1_2]", "[2:1[0:]3]", "[2 3:[0:]_4[0:]]", " 7", "7 ", "[ 2 : 1\t2\n]\r",
    "\t\n\r [\t\n\r 0\t\n\r :\t\n\r ]\t\n\r ",
    "[:" * 2730 + "5" + "]" * 2730, chain(1300), "1" * 8192, " " * 8191 + "1", "1" + " " * 8191,
)

# A text, and the position (counted from 0) that keeps it from being in form.
NOT_IN_FORM = (
    # a token that can't stand where it stands
    ("]", 0), (":", 0), ("  ]", 2), (" :", 1),
    ("5 5", 2), ("5 _5", 2), ("5_5", 1), ("5 [0:]", 2), ("5[", 1), ("5]", 1), ("5 :", 2),
    ("[0:]5", 4), ("[0:] [0:]", 5), ("[0:]]", 4), ("[0:]:", 4), ("[0:]  ]", 6),
    ("[]", 1), ("[2]", 2), ("[[", 1), ("[2 [0:]:]", 3), ("[2::]", 3), ("[2: 1: 2]", 5), ("[2: [0:] : 5]", 9),
    ("[1: []]", 5), ("[1: [1: 5]", 10),
    # a number below 0 can't stand before a colon
    ("[_1: 5]", 1), ("[2 _3: 5]", 3), ("[2_3: 5]", 2), ("[ _1", 2), ("[1: [_2:]]", 5),
    # a byte at which no token begins
    ("@", 0), ("  @", 2), ("a", 0), ("-5", 0), ("5@", 1), ("5 @", 2), ("[2@", 2), ("[2: 1, 2]", 5),
    ("[0:]@", 4), ("_", 0), ("__1", 0), ("_ 1", 0), ("1_", 1), ("[1: _]", 4), ("[1: _", 4), ("_[", 0),
    ("0_", 1), ("\x0b5", 0), ("5\x0c", 1), ("\x005", 0), ("/", 0), (";", 0), ("^", 0), ("\\", 0), ("`", 0),
    # zeros before other digits, and the number 0 with a sign
    ("00", 0), ("01", 0), ("007", 0), ("_0", 0), ("_00", 0), ("_01", 0), ("[00:]", 1), ("[01: 5]", 1),
    ("[1: 05]", 4), ("[1: _0]", 4), ("[_0:]", 1), ("5 00", 2), ("0 00", 2),
    # the first of several
    ("] @", 0), ("@ ]", 0), ("[_1 00: @", 1), ("[2: 1 : @", 6), ("[2: @ :", 4), ("5 00 @", 2),
    # a text that ends too early
    ("", 0), (" ", 1), (" \t\n\r", 4), ("[", 1), ("[2", 2), ("[2 2", 4), ("[2:", 3), ("[2: 1 2", 7),
    ("[2: 1 2 ", 8), ("[1: [0:]", 8), ("[1: [0:", 7), ("[:" * 4096, 8192), (" " * 8192, 8192), ("[ ", 2),
    ("1" * 8191 + "]", 8191), (" " * 8191 + "_", 8191),
)


def told_otherwise(text):
    """What where has to answer, by way of taking VALUEs back to one sign, token by token."""
    left = ""
    for match in re.finditer(r"[ \t\n\r]+|_?[0-9]+|.", text):
        token = match.group()
        position = match.start()
        if token.isspace():
            continue
        if not re.fullmatch(r"0|_?[1-9][0-9]*|[\[:\]]", token):
            return position + 1
        left += token if token in "[:]" else "-" if token[0] == "_" else "+"
        left = re.sub(r"\[\+*:[-+v]*\]", "v", left)
        if not re.fullmatch(r"|[-+v]|(\[\+*:[-+v]*)*(\[\+*(:[-+v]*)?)", left):
            return position + 1
    return 0 if re.fullmatch(r"[-+v]", left) else len(text) + 1


class WhereTest(CallCase):

    def test_texts_in_form_answer_0(self):
        for text in IN_FORM:
            self.assert_answer(where, text, [0])

    def test_texts_not_in_form_answer_one_more_than_the_position(self):
        for text, position in NOT_IN_FORM:
            self.assert_answer(where, text, [position + 1])

    def test_every_byte_alone(self):
        for byte in range(256):
            expected = 0 if 48 <= byte <= 57 else 2 if byte in (9, 10, 13, 32, 91) else 1
            self.assertEqual(where([byte]), [expected], byte)

    def test_every_byte_as_a_blank(self):
        for byte in range(256):
            blank = byte in (9, 10, 13, 32)
            answer = where(bytes_of("[1") + [byte] + bytes_of("2: 3]"))
            if blank or byte in range(48, 58):
                self.assertEqual(answer, [0], byte)
            elif byte != 58:
                self.assertEqual(answer, [3], byte)

    def test_every_short_text(self):
        for length in range(6):
            for signs in itertools.product("[:]_01 @", repeat=length):
                text = "".join(signs)
                self.assertEqual(where(bytes_of(text)), [told_otherwise(text)], text)

    def test_length(self):
        self.assert_answer(where, "1" * 8192, [0])
        self.assert_answer(where, "1" * 8193, [LONG])
        self.assert_answer(where, "1" + " " * 8192, [LONG])
        self.assert_answer(where, "@" * 8193, [LONG])
        self.assert_answer(where, "[" * 20000, [LONG])
        self.assert_answer(where, " " * 8193, [LONG])

    def test_nothing_is_kept(self):
        self.assert_keeps_nothing(where, "[2: 1 2]")
        self.assert_keeps_nothing(where, "[2: 1 @]")
