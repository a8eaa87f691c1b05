"""pairhues.notes: deeds as lines, and play."""

import copy
import random
import unittest

from pairhues.errors import BadCount, BadLine, PairError
from pairhues.notes import deed_of, line_of, play
from tests.second_way import NEVER_WHOLE, Equal

GREATEST = 10 ** 30 - 1
DEEDS = [(("come", 0, 0), "come 0 0"), (("come", 7, 10), "come 7 10"), (("go", 0), "go 0"),
         (("go", 39), "go 39"), (("come", 10, 100), "come 10 100"), (("go", 1000), "go 1000"),
         (("come", 123456789, 987654321), "come 123456789 987654321"),
         (("go", GREATEST), "go " + "9" * 30), (("go", 10 ** 29), "go 1" + "0" * 29),
         (("come", GREATEST, 0), "come " + "9" * 30 + " 0"),
         (("come", 0, GREATEST), "come 0 " + "9" * 30)]
BAD_TEXTS = [
    # Noughts and signs ahead.
    "come 00 0", "come 0 00", "come 01 1", "come 1 01", "go 00", "go 01", "go 007", "go -1",
    "go +1", "go -0", "come -1 0", "come 0 -1", "come +0 0", "come 0 +0", "go " + "0" * 30,
    "go 0" + "1" * 29,
    # Blanks too many, in front and behind, and other gaps.
    "come  0 0", "come 0  0", " come 0 0", "come 0 0 ", "go  1", " go 1", "go 1 ", "go 1  ", "go ",
    "go  ", "come 0 ", "come  0", " ", "  ", "come\t0 0", "come 0\t0", "go\t1", "\tgo 1", "go 1\t",
    "go 1\n", "\ngo 1", "go\n1", "come 0\n0", "come 0 0\n", "come 0 0\r", "go 1\r\n", "go\x0b1",
    "go\u00a01", "go 1\u2003", "go 1\x00", "go \x001",
    # Other figures than 0 to 9, and what is no number.
    "go \u0663", "go 1\u0663", "go \u00b2", "go \uff11", "come \u0967 0", "go 1.0", "go 1.", "go .1",
    "go 1e3", "go 1_0", "go 0x1", "go a", "go 1a", "go None", "go True", "go 1,0", "go '1'",
    "come 0,0", "come (0, 0)", "go 1/2", "go 1:",
    # Numbers too many or too few.
    "come", "come 0", "come 0 0 0", "come 0 0 0 0", "go", "go 0 0", "go 0 0 0",
    # Other words.
    "Come 0 0", "COME 0 0", "Go 0", "GO 0", "gO 0", "comes 0 0", "com 0 0", "ome 0 0", "goes 0",
    "g 0", "gone 0", "stay 0", "count", "pairs", "0", "0 0", "0 come 0", "0 go", "go0", "come0 0",
    "come go 0", "go come 0 0", "come 0 0 go 0", "go 0;go 1", "", "#", "\\", "%", "go %", "~",
    # More than thirty figures.
    "go " + "9" * 31, "go 1" + "0" * 30, "come " + "1" * 31 + " 0", "come 0 " + "1" * 31,
    "go " + "1" * 5000, "come " + "9" * 5000 + " " + "9" * 5000]
NO_TEXTS = [None, True, False, 0, 1, -1, 1.0, 10 ** 5000, b"go 0", ["go 0"], [], ("go", 0),
            ("come", 0, 0), {}, {"go": 0}, set(), object(), str, line_of, Equal(), bytearray(b"go 0")]
# In this order each hue and each chain is forced.
FALLING = ["come 0 0", "come 1 1", "come 1 2", "come 2 3", "come 2 3", "come 2 3", "come 0 2"]


class LineOfTest(unittest.TestCase):

    def test_they_are_defined_in_their_file(self):
        for one in (line_of, deed_of, play):
            self.assertEqual(one.__module__, "pairhues.notes")

    def test_by_hand(self):
        for deed, line in DEEDS:
            self.assertEqual(line_of(deed), line)
            self.assertIs(type(line_of(deed)), str)

    def test_somewhat_beyond_thirty_figures(self):
        self.assertEqual(line_of(("go", 10 ** 40)), "go 1" + "0" * 40)


class DeedOfTest(unittest.TestCase):

    def refused(self, line):
        with self.assertRaises(PairError) as caught:
            deed_of(line)
        self.assertIs(type(caught.exception), BadLine)

    def test_by_hand(self):
        for deed, line in DEEDS:
            told = deed_of(line)
            self.assertEqual(told, deed)
            self.assertIs(type(told), tuple)
            self.assertEqual([type(part) for part in told], [str] + [int] * (len(deed) - 1))

    def test_each_is_the_inverse_of_the_other(self):
        chance = random.Random("lines")
        for _ in range(2000):
            numbers = [chance.randrange(10 ** chance.randint(1, 30)) for _ in range(2)]
            for deed in (("come", *numbers), ("go", numbers[0])):
                self.assertEqual(deed_of(line_of(deed)), deed)
                self.assertEqual(line_of(deed_of(line_of(deed))), line_of(deed))

    def test_bad_texts(self):
        for line in BAD_TEXTS:
            with self.subTest(line=line[:50]):
                self.refused(line)

    def test_a_changed_text_is_bad_or_another_deed(self):
        chance = random.Random("changed")
        signs = "0123456789 -+.comeg\t\n~"
        for _ in range(5000):
            line = chance.choice(DEEDS)[1]
            at = chance.randrange(len(line) + 1)
            line = line[:at] + chance.choice(signs) + line[at + chance.randrange(2):]
            try:
                deed = deed_of(line)
            except BadLine:
                continue
            self.assertEqual(line_of(deed), line)

    def test_what_is_no_text(self):
        for bad in NO_TEXTS:
            self.refused(bad)


class PlayTest(unittest.TestCase):

    def refused(self, lefts, rights, lines):
        with self.assertRaises(PairError) as caught:
            play(lefts, rights, lines)
        self.assertIs(type(caught.exception), BadCount)

    def test_no_lines(self):
        self.assertEqual(play(1, 1, []), [])

    def test_deeds_that_turn_no_chain(self):
        self.assertEqual(play(2, 2, ["come 0 0", "come 1 1", "come 0 1", "come 1 0"]),
                         [["0 0"], ["1 0"], ["2 1"], ["3 1"]])

    def test_a_deed_that_turns_a_chain(self):
        self.assertEqual(play(2, 3, ["come 0 0", "come 1 1", "come 1 2", "come 0 2"]),
                         [["0 0"], ["1 0"], ["2 1"], ["3 0 1 0"]])
        lines = ["come 0 0", "come 1 1", "come 1 2", "come 2 0", "come 3 1", "come 0 2"]
        self.assertEqual(play(4, 3, lines)[-1], ["5 0 1 0 3"])

    def test_a_go_that_tells_nothing(self):
        self.assertEqual(play(1, 1, ["come 0 0", "go 0", "come 0 0"]), [["0 0"], [], ["1 0"]])

    def test_a_go_that_tells_one_and_one_that_tells_several(self):
        told = play(3, 4, FALLING)
        self.assertEqual(told[5:], [["5 2"], ["6 2"]])
        self.assertEqual(play(3, 4, FALLING + ["go 5"])[-1], ["6 0 1 0"])
        hue = told[3][0].split(" ")[1]
        self.assertEqual(play(3, 4, FALLING + ["go 3"])[-1], ["5 " + hue, "6 0 1 0"])

    def test_the_kinds_of_what_is_told(self):
        told = play(3, 4, FALLING + ["go 3", "go 0", "", "go 99"])
        self.assertIs(type(told), list)
        for texts in told:
            self.assertIs(type(texts), list)
            self.assertTrue(all(type(text) is str for text in texts))

    def test_the_four_texts_of_refusals(self):
        lines = ["come 2 0", "come 0 3", "come 9 9", "go 0", "come 0 0", "go 1", "go 0", "go 0"]
        self.assertEqual(play(2, 3, lines), [["bad end"], ["bad end"], ["bad end"], ["no pair"],
                                             ["0 0"], ["no pair"], [], ["no pair"]])
        self.assertEqual(play(1, 1, ["come 0 0"] * 42 + ["come 1 0", "come 0 0 0"])[39:],
                         [["39 39"], ["too many"], ["too many"], ["bad end"], ["bad line"]])
        great = "9" * 30
        self.assertEqual(play(1, 1, [f"come {great} 0", f"come 0 {great}", f"go {great}"]),
                         [["bad end"], ["bad end"], ["no pair"]])

    def test_bad_lines(self):
        for line in BAD_TEXTS + NO_TEXTS:
            self.assertEqual(play(1, 1, [line, "come 0 0", line]),
                             [["bad line"], ["0 0"], ["bad line"]])

    def test_a_line_that_is_refused_takes_no_number(self):
        lines = ["come 0 0", "come 1 0", "come 0 0 ", "go 5", "come 0 0"]
        self.assertEqual(play(1, 1, lines),
                         [["0 0"], ["bad end"], ["bad line"], ["no pair"], ["1 1"]])

    def test_forty_pairs_and_one_more(self):
        lines = ["come 0 0"] * 41 + ["go 39", "come 0 0", "go 0", "come 0 0"]
        told = play(1, 1, lines)
        self.assertEqual(told, [[f"{at} {at}"] for at in range(40)]
                         + [["too many"], [], ["40 39"], ["40 0"], ["41 39"]])

    def test_the_same_again_is_told_alike(self):
        lines = FALLING + ["go 3", "come 0 0", "", "go 9", "go 5", "come 2 2"]
        before = copy.deepcopy(lines)
        told = play(3, 4, lines)
        kept = copy.deepcopy(told)
        for texts in told:
            texts.append("spoilt")
        told.clear()
        self.assertEqual(play(3, 4, lines), kept)
        self.assertEqual(lines, before)
        lines.append("go 1")
        self.assertEqual(play(3, 4, lines)[:-1], kept)

    def test_refusals_of_two_lines_are_two_lists(self):
        told = play(1, 1, ["", ""])
        self.assertIsNot(told[0], told[1])

    def test_bad_counts(self):
        for bad in NEVER_WHOLE + (0, 9):
            self.refused(bad, 3, [])
            self.refused(3, bad, [])
            self.refused(bad, 3, ["come 0 0", "no line"])
        for good in (1, 8):
            line = f"come {good - 1} {good - 1}"
            self.assertEqual(play(good, good, [line]), [["0 0"]])


if __name__ == "__main__":
    unittest.main()
