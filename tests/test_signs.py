"""Words of a text, promise 4."""

import unittest

from neverbrush.errors import BadText
from neverbrush.signs import number_of, text_of, word_of, words
from tests.made import Figures

LETTERS = "abcdefghijklmnopqrstuvwxyz0123456789-"
SIGNS = "".join(chr(k) for k in range(32, 127))


def made_words(figures):
    """Some WORDS."""
    found, line = [], 0
    for _ in range(figures.below(9)):
        line += (0, 0, 0, 1, 2, 5)[figures.below(6)]
        found.append(("".join(figures.one_of(LETTERS) for _ in range(figures.between(1, 15))), line))
    return found


class Words(unittest.TestCase):
    def bad(self, text, line):
        with self.assertRaises(BadText) as caught:
            words(text)
        self.assertEqual(vars(caught.exception), {"line": line})

    def test_ordinary(self):
        self.assertEqual(words("east 0 1\neast 2\n"), [("east", 0), ("0", 0), ("1", 0), ("east", 1), ("2", 1)])
        self.assertEqual(words("a"), [("a", 0)])
        self.assertEqual(words("-"), [("-", 0)])
        self.assertEqual(words("a-b9 --"), [("a-b9", 0), ("--", 0)])
        self.assertEqual(words("x" * 100000), [("x" * 100000, 0)])

    def test_without_words(self):
        for text in ("", " ", "   ", "\n", "\n\n\n", "#", "# a b", " #\n#\n   \n# x.y!", "#\n"):
            with self.subTest(text):
                self.assertEqual(words(text), [])

    def test_remarks(self):
        self.assertEqual(words("a#b c\nd # e # f\n#g\nh"), [("a", 0), ("d", 1), ("h", 3)])
        self.assertEqual(words("a # " + SIGNS + "\nb"), [("a", 0), ("b", 1)])

    def test_each_sign(self):
        for sign in SIGNS:
            for text, line in ((sign, 0), ("a\n" + sign, 1), ("a" + sign + "b", 0), ("\n\nb " + sign, 2)):
                with self.subTest(text):
                    if sign in LETTERS or sign in " #":
                        words(text)
                    else:
                        self.bad(text, line)

    def test_first_bad_line(self):
        self.bad("a\nb.\nc\n!", 1)
        self.bad("A", 0)
        self.bad("\n\n\n_", 3)
        self.bad("# .\n.# .", 1)
        self.bad("east 0\nsouth 0\nroad W", 2)
        self.bad("a.b c", 0)

    def test_lists_are_new(self):
        found = words("a b")
        found.append(("c", 0))
        self.assertEqual(words("a b"), [("a", 0), ("b", 0)])


class TextOf(unittest.TestCase):
    def test_ordinary(self):
        self.assertEqual(text_of([]), "")
        self.assertEqual(text_of(()), "")
        self.assertEqual(text_of([("a", 0)]), "a\n")
        self.assertEqual(text_of([("a", 3)]), "\n\n\na\n")
        self.assertEqual(text_of([("a", 0), ("b", 0), ("c", 2)]), "a b\n\nc\n")

    def test_lists_and_tuples(self):
        own = [["a", 0], ["b", 0], ["c", 2]]
        self.assertEqual(text_of(own), "a b\n\nc\n")
        self.assertEqual(own, [["a", 0], ["b", 0], ["c", 2]])
        self.assertEqual(text_of((("a", 0), ["b", 0], ("c", 2))), "a b\n\nc\n")
        self.assertEqual(text_of(words=words(text="a b\n\nc")), "a b\n\nc\n")

    def test_there_and_back(self):
        figures = Figures(4)
        for _ in range(300):
            own = made_words(figures)
            with self.subTest(own):
                self.assertEqual(words(text_of(own)), own)
                self.assertEqual(text_of(words(text_of(own))), text_of(own))

    def test_blanks_and_remarks_change_nothing(self):
        figures = Figures(5)
        for _ in range(100):
            own = made_words(figures)
            lines = text_of(own).split("\n")
            spaced = ["  " + row.replace(" ", "   ") + " " * figures.below(3) for row in lines]
            marked = [row + "# any $ remark %" if figures.below(2) else row for row in spaced]
            self.assertEqual(words("\n".join(spaced)), own)
            self.assertEqual(words("\n".join(marked)), own)

    def test_a_line_break_puts_later_words_one_line_on(self):
        figures = Figures(6)
        for _ in range(100):
            own = made_words(figures) + [("last", 60)]
            own = [(word, line) for word, line in own]
            at = figures.below(len(own))
            lines = text_of(own).split("\n")
            line = own[at][1]
            place = at - [k for k, pair in enumerate(own) if pair[1] == line][0]
            row = lines[line].split(" ")
            lines[line] = " ".join(row[:place]) + "\n" + " ".join(row[place:])
            moved = own[:at] + [(word, line + 1) for word, line in own[at:]]
            self.assertEqual(words("\n".join(lines)), moved)


class Numbers(unittest.TestCase):
    def test_number_words(self):
        for word, number in (("0", 0), ("7", 7), ("-1", -1), ("10", 10), ("123456789012", 123456789012),
                             ("-999999999999", -999999999999), ("100000000000", 10 ** 11)):
            with self.subTest(word):
                found = number_of(word)
                self.assertEqual(found, number)
                self.assertIs(type(found), int)
                self.assertEqual(word_of(number), word)

    def test_no_number_words(self):
        for word in ("", "-", "-0", "00", "07", "-07", "--1", "1-", "1-2", "a", "1a", "-a", "+1", " 1", "1 ",
                     "1.0", "1_0", "0x1", "1234567890123", "-1234567890123", "0000000000001", "\u0661", "\u00b2",
                     "1\n", "\n", "- 1", "one"):
            with self.subTest(word):
                self.assertIsNone(number_of(word))

    def test_there_and_back(self):
        figures = Figures(7)
        for size in range(1, 13):
            for _ in range(50):
                number = figures.between(-(10 ** size - 1), 10 ** size - 1)
                self.assertEqual(number_of(word_of(number)), number)
                self.assertEqual(words(word_of(number)), [(word_of(number), 0)])
        for number in (10 ** 12 - 1, 1 - 10 ** 12, 0, 1, -1, 9, 10, -9, -10):
            self.assertEqual(number_of(word_of(number)), number)

    def test_all_short_words(self):
        known = {str(number): number for number in range(-99, 1000)}
        for word in [a + b + c for a in "-01289" for b in ("", "-", "0", "7") for c in ("", "-", "0", "3")]:
            self.assertEqual(number_of(word), known.get(word))


if __name__ == "__main__":
    unittest.main()
