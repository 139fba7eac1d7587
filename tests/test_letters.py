"""Letters and texts: there and back, and the first line that can not stand there."""

import unittest

import made_letters
import plain_texts
from suredue import letters
from suredue.errors import BadText
from support import check_gives, check_raises

NET = ((0, 1, 10, 5), (1, 2, 8, 0))
LENT = (0, 3, (6, 5), ((0, 4, ("image", 7), 40),))
TWO = (1, 4, (1, 1), ((1, 2, ("image", 7), 9), (0, 4, ("image", 12), 0)))
WRITERS = {kind: getattr(letters, f"{kind}_text") for kind in plain_texts.ROWS}
READERS = {kind: getattr(letters, f"{kind}_read") for kind in plain_texts.ROWS}

TEXTS = (
    ("net", NET, "net\nchannel 0 1 10 5\nchannel 1 2 8 0"),
    ("times", (2, 3, 0), "times 2 3 0"),
    ("times", (10, 10, 40), "times 10 10 40"),
    ("sheet", (0, 0, (10, 5), ()), "sheet 0 0 10 5"),
    ("sheet", TWO, "sheet 1 4 1 1\nlock 1 2 7 9\nlock 0 4 12 0"),
    ("sheet", (5, 999999999999, (0, 0), ()), "sheet 5 999999999999 0 0"),
    ("letters", (), ""),
    ("letters", (("offer", TWO), ("agree", TWO)),
     "offer 1 4 1 1\nlock 1 2 7 9\nlock 0 4 12 0\nagree 1 4 1 1\nlock 1 2 7 9\nlock 0 4 12 0"),
    ("letters", (("turn", 0, 3), ("secret", 1, 7)), "turn 0 3\nsecret 1 7"),
    ("letters", (("pass", 0, ("image", 7), (), ()), ("pass", 1, ("image", 8), (0, 2), (30, 20))),
     "pass 0 7\npass 1 8 0 30 2 20"),
    ("deeds", (), ""),
    ("deeds", (("close", LENT), ("show", 0, 7), ("close", TWO)),
     "close 0 3 6 5\nlock 0 4 7 40\nshow 0 7\nclose 1 4 1 1\nlock 1 2 7 9\nlock 0 4 12 0"),
    ("wishes", (), ""),
    ("wishes", ((4, ("pay", (0, 1), 3, ("image", 7), (40, 30))), (9, ("leave", 0))), "pay 4 3 7 0 40 1 30\nleave 9 0"),
    ("plan", (), ""),
    ("plan", (((), ()), ((), ())), "choice\nchoice"),
    ("plan", (((("late", 0), ("own", ("show", 1, 7))), (("sent", 2), ("own", 1, 0, ("turn", 0, 3)))),),
     "choice\nlate 0\nshow 1 7\nsent 2\nown 1 0\nturn 0 3"),
    ("plan", (((("own", ("close", LENT)), ("late", 2)), (("own", 7, 0, ("offer", LENT)), ("sent", 0), ("sent", 0))),),
     "choice\nclose 0 3 6 5\nlock 0 4 7 40\nlate 2\nown 7 0\noffer 0 3 6 5\nlock 0 4 7 40\nsent 0\nsent 0"),
)

BAD = (
    ("net", "", 1), ("net", "net", 2), ("net", "net\n", 2), ("net", "\nnet", 1), ("net", "net 1\nchannel 0 1 1 1", 1),
    ("net", "net\nchannel 0 1 1 1\n", 3), ("net", "net\nchannel 0 1 1 1\nnet", 3), ("net", "net\nchannel 1 1 1 1", 2),
    ("net", "net\nchannel 0 1 1", 2), ("net", "net\nchannel 0 1 1 1 1", 2), ("net", "net\nchannel 0 1 01 1", 2),
    ("net", "net\nchannel 0 1 1 1\nchannel 0 1  1 1", 3), ("net", "Net\nchannel 0 1 1 1", 1),
    ("times", "", 1), ("times", "times 0 1 1", 1), ("times", "times 1 0 1", 1), ("times", "times 1 1", 1),
    ("times", "times 1 1 1\n", 2), ("times", "times 1 1 1\ntimes 1 1 1", 2), ("times", "times 1 1 1 ", 1),
    ("times", "times 1 1 " + "1" * 13, 1), ("times", "times 1 1 00", 1), ("times", "times 1 1 -1", 1),
    ("times", "\n", 1),
    ("sheet", "", 1), ("sheet", "sheet 0 3 6 5\nlock 2 4 7 40", 2), ("sheet", "sheet 0 3 6 5\nlock 0 0 7 40", 2),
    ("sheet", "sheet 0 3 6 5\nlock 0 4 7 40\nlock 1 1 8 1\nlock 1 2 7 41", 4), ("sheet", "sheet 0 3 6 5\n", 2),
    ("sheet", "sheet 0 3 6 5\nlock 0 4 7", 2), ("sheet", "sheet 0 3 6 5\nlock 0 4 7 1\nsheet 0 3 6 5", 3),
    ("sheet", "offer 0 3 6 5", 1), ("sheet", "lock 0 4 7 40", 1),
    ("letters", "\n", 1), ("letters", "turn 0 3\n", 2), ("letters", "turn 0 3\nlock 0 4 7 40", 2),
    ("letters", "offer 0 3 6 5\nlock 0 4 7 1\nagree 0 3 6 5\nlock 0 4 7 1\nlock 0 5 7 2", 5),
    ("letters", "pass", 1), ("letters", "pass 0 7 1", 1), ("letters", "pass 0", 1), ("letters", "pass 0 7 1 2 3", 1),
    ("letters", "show 0 7", 1),
    ("letters", "sheet 0 3 6 5", 1), ("letters", "secret 0 7\nsecret 0 7 8", 2),
    ("letters", "secret 0 7\n\nsecret 0 7", 2),
    ("deeds", "\n", 1), ("deeds", "show 0", 1), ("deeds", "show 0 7\noffer 0 3 6 5", 2), ("deeds", "close 0 3 6", 1),
    ("deeds", "show 0 7\nlock 0 4 7 40", 2), ("deeds", "close 0 3 6 5\nlock 0 4 7 40\n", 3),
    ("wishes", "pay", 1), ("wishes", "pay 4", 1), ("wishes", "pay 4 3", 1), ("deeds", "show", 1),
    ("plan", "choice\nown", 2), ("plan", "choice\nown 1 0\npass", 3),
    ("wishes", "\n", 1), ("wishes", "pay 4 3 7", 1), ("wishes", "pay 4 0 7 0 40", 1), ("wishes", "pay 4 3 7 0", 1),
    ("wishes", "leave 9 0\nleave 9", 2), ("wishes", "leave 9 0\nleave 9 0 0", 2), ("wishes", "pay 4 3 7 0 40 1", 1),
    ("plan", "late 0", 1), ("plan", "choice\nsent 0\nlate 0", 3), ("plan", "choice\nown 1 0", 3),
    ("plan", "choice 0", 1),
    ("plan", "choice\nown 1 0\nchoice", 3), ("plan", "choice\nown 1 0\nclose 0 3 6 5", 3), ("plan", "choice\n", 2),
    ("plan", "choice\nown 1 0\nown 1 0\nturn 0 0", 3), ("plan", "choice\nturn 0 0", 2), ("plan", "choice\nlate", 2),
    ("plan", "choice\nown 1\nturn 0 0", 2), ("plan", "choice\nlate 0 1", 2), ("plan", "choice\nlock 0 4 7 40", 2),
    ("plan", "choice\nown 1 0\nturn 0 0\nshow 0 7", 4), ("plan", "choice\nsent 0\nlock 0 4 7 40", 3),
)


class Letters(unittest.TestCase):
    def test_is_letter(self):
        for letter in (("offer", LENT), ("agree", LENT), ("turn", 1, 0), ("pass", 1, ("image", 7), (0,), (3,))):
            check_gives(self, letters.is_letter, (NET, letter), True)
        for letter in (
            ("offer", (0, 3, (6, 5), ())),
            ("turn", 2, 0),
            ("turn", -1, 0),
            ("secret", 2, 7),
            ("secret", 0, -1),
            ("pass", 2, ("image", 7), (), ()),
            ("pass", 0, ("image", 7), (2,), (3,)),
            ("pass", 0, ("image", 7), (0,), ()),
            ("pass", 0, ("image", 7), (), (3,)),
            ("pass", 0, 7, (), ()),
            ("show", 0, 7),
            ("close", LENT),
        ):
            check_gives(self, letters.is_letter, (NET, letter), False)

    def test_channel_of(self):
        for letter, channel in (
            (("offer", TWO), 1),
            (("agree", LENT), 0),
            (("turn", 1, 0), 1),
            (("secret", 0, 7), 0),
            (("pass", 1, ("image", 7), (0,), (3,)), 1),
        ):
            check_gives(self, letters.channel_of, (letter,), channel)


class Texts(unittest.TestCase):
    def check_bad(self, kind, text, line):
        check_raises(self, READERS[kind], (text,), BadText(line))

    def test_there_and_back(self):
        for kind, thing, text in TEXTS:
            check_gives(self, WRITERS[kind], (thing,), text)
            check_gives(self, READERS[kind], (text,), thing)

    def test_lines_that_can_not_stand_there(self):
        for kind, text, line in BAD:
            self.assertEqual(plain_texts.bad_line(kind, text), line, (kind, text))
            self.check_bad(kind, text, line)

    def test_what_is_not_asked(self):
        # Neither whether the channels are there nor what sums come to, nor what SHEET 0 is.
        self.assertEqual(letters.sheet_read("sheet 99 0 1 2\nlock 1 5 7 0"), (99, 0, (1, 2), ((1, 5, ("image", 7), 0),)))
        self.assertEqual(letters.plan_read("choice\nlate 99\nsent 98\nown 9 9\nturn 99 0")[0][0], (("late", 99),))
        self.assertEqual(letters.wishes_read("pay 0 1 7 99 0 99 0")[0][1][1], (99, 99))

    def test_made_up_things_there_and_back(self):
        for seed in range(300):
            for kind, thing in made_letters.things(seed).items():
                text = WRITERS[kind](thing)
                self.assertEqual(READERS[kind](text), thing)
                self.assertIsNone(plain_texts.bad_line(kind, text))
                for reader in READERS:
                    self.check_read(reader, text)

    def check_read(self, kind, text):
        """The reader beside the plain telling: what it reads has this text, or the line is the told one."""
        line, told = plain_texts.bad_line(kind, text), None
        try:
            thing = READERS[kind](text)
        except BadText as error:
            told = error.line
        self.assertEqual(told, line, (kind, text))
        if line is None:
            self.assertEqual(WRITERS[kind](thing), text)

    def test_texts_bent_in_one_place(self):
        for kind, _, text in TEXTS:
            for other in plain_texts.text_bends(text):
                self.check_read(kind, other)

    def test_made_up_texts_bent_in_one_place(self):
        for seed in range(12):
            for kind, thing in made_letters.things(seed).items():
                for other in plain_texts.text_bends(WRITERS[kind](thing)):
                    self.check_read(kind, other)

    def test_texts_bent_in_two_places(self):
        for seed, (kind, _, text) in enumerate(TEXTS):
            bent = sorted(set(plain_texts.text_bends(text)))
            for at in range(0, len(bent), 97):
                for other in list(plain_texts.text_bends(bent[at]))[seed::11]:
                    self.check_read(kind, other)


if __name__ == "__main__":
    unittest.main()
