import itertools
import re
import unittest

from turnery.errors import NoText
from turnery.words import words

# The words of point 6 as a pattern of their own, to hold the answers against.
WORD = re.compile(r"[a-z]{1,8}(?![a-z])|-?[1-9][0-9]{0,59}(?![0-9])|0(?![0-9])|[();:=|*]")


def matched(text):
    """The text's words by the pattern, or None."""
    told = []
    spot = 0
    while spot < len(text):
        if text[spot] == " ":
            spot += 1
            continue
        found = WORD.match(text, spot)
        if found is None:
            return None
        told.append(found.group())
        spot = found.end()
    return told


def asked(text):
    try:
        return words(text)
    except NoText:
        return None


class TestWords(unittest.TestCase):
    def test_the_example(self):
        self.assertEqual(words("a-5=3"), ["a", "-5", "=", "3"])

    def test_no_words(self):
        self.assertEqual(words(""), [])
        self.assertEqual(words(" "), [])
        self.assertEqual(words("      "), [])

    def test_blanks_between(self):
        self.assertEqual(words("a b"), ["a", "b"])
        self.assertEqual(words("a   b 1  2"), ["a", "b", "1", "2"])
        self.assertEqual(words("1 2 -3 0 0"), ["1", "2", "-3", "0", "0"])
        self.assertEqual(words("abcdefgh ijklmnop"), ["abcdefgh", "ijklmnop"])

    def test_blanks_ahead_and_behind(self):
        self.assertEqual(words(" a"), ["a"])
        self.assertEqual(words("a "), ["a"])
        self.assertEqual(words("   -7   "), ["-7"])
        self.assertEqual(words(" ( ) "), ["(", ")"])

    def test_no_blanks(self):
        self.assertEqual(words("a5(b c-3(d)b0)"), ["a", "5", "(", "b", "c", "-3", "(", "d", ")", "b", "0", ")"])
        self.assertEqual(words("5a"), ["5", "a"])
        self.assertEqual(words("5-3-2"), ["5", "-3", "-2"])
        self.assertEqual(words("0-1"), ["0", "-1"])
        self.assertEqual(words("*q0;q list nil:nil"), ["*", "q", "0", ";", "q", "list", "nil", ":", "nil"])
        self.assertEqual(words("n=-1"), ["n", "=", "-1"])

    def test_texts_of_the_document(self):
        self.assertEqual(
            words("list = nil | cons(num list); num = n"),
            ["list", "=", "nil", "|", "cons", "(", "num", "list", ")", ";", "num", "=", "n"])

    def test_names(self):
        for name in ["a", "z", "m", "abcdefgh", "zzzzzzzz", "ijklmnop", "qrstuvwx", "yz"]:
            self.assertEqual(words(name), [name])
        self.assertEqual(words("abcdefgh1abcdefgh"), ["abcdefgh", "1", "abcdefgh"])

    def test_numbers(self):
        for number in ["0", "1", "9", "10", "90", "100", "1234567890", "9" * 60, "1" + "0" * 59]:
            self.assertEqual(words(number), [number])
        for number in ["-1", "-9", "-10", "-100", "-1234567890", "-" + "9" * 60, "-1" + "0" * 59]:
            self.assertEqual(words(number), [number])
        self.assertEqual(words("9" * 60 + "-" + "9" * 60), ["9" * 60, "-" + "9" * 60])
        self.assertEqual(words("9" * 60 + " " + "9" * 60), ["9" * 60, "9" * 60])

    def test_each_sign_by_itself(self):
        for sign in "();:=|*":
            self.assertEqual(words(sign), [sign])
            self.assertEqual(words(sign * 3), [sign] * 3)
            self.assertEqual(words("a" + sign + "1"), ["a", sign, "1"])
            self.assertEqual(words("1" + sign + "-1"), ["1", sign, "-1"])
        self.assertEqual(words("();:=|*"), ["(", ")", ";", ":", "=", "|", "*"])

    def test_a_list_of_texts(self):
        told = words("a-5=3 (b)")
        self.assertIs(type(told), list)
        self.assertEqual({type(word) for word in told}, {str})

    def test_a_changed_list_changes_no_later_answer(self):
        told = words("a 5")
        told.append("b")
        told[0] = None
        self.assertEqual(words("a 5"), ["a", "5"])
        self.assertEqual(told, [None, "5", "b"])
        words("").append("a")
        self.assertEqual(words(""), [])

    def test_long_texts(self):
        self.assertEqual(words("a" + " " * 3998 + "b"), ["a", "b"])
        self.assertEqual(words("(" * 4000), ["("] * 4000)
        self.assertEqual(words("a1" * 2000), ["a", "1"] * 2000)

    def test_all_short_texts(self):
        for many in range(6):
            for signs in itertools.product("ab01-= (", repeat=many):
                text = "".join(signs)
                self.assertEqual(asked(text), matched(text), text)


class TestRefused(unittest.TestCase):
    def refused(self, text):
        with self.subTest(text=text):
            with self.assertRaises(NoText):
                words(text)

    def refused_anywhere(self, piece):
        for text in [piece, "a " + piece, piece + " a", "a=" + piece, "(" + piece + ")", " " + piece + " "]:
            self.refused(text)

    def test_long_runs_of_letters(self):
        for many in (9, 10, 16, 17, 100):
            self.refused_anywhere("a" * many)
        self.refused("1abcdefghi")
        self.refused("abcdefghi1")

    def test_long_runs_of_figures(self):
        for many in (61, 62, 120, 121):
            self.refused_anywhere("1" * many)
            self.refused_anywhere("-" + "1" * many)
        self.refused("a" + "1" * 61)

    def test_zero_ahead(self):
        for piece in ["00", "01", "007", "0123", "-01", "-00", "0" * 60, "0" * 61, "-0123", "a01"]:
            self.refused_anywhere(piece)

    def test_zero_below_zero(self):
        for piece in ["-0", "a-0", "1-0", "=-0"]:
            self.refused_anywhere(piece)

    def test_minus_without_a_figure(self):
        for piece in ["-", "a-", "1-", "- ", "- 1", "-a", "--", "--1", "1--1", "-(", "-=", "-;", "a -"]:
            self.refused_anywhere(piece)
        self.refused("-\u0661")
        self.refused("-\n1")

    def test_every_other_sign_below_256(self):
        taken = "abcdefghijklmnopqrstuvwxyz0123456789();:=|* "
        for code in range(256):
            if chr(code) not in taken:
                self.refused(chr(code))
                self.refused("a" + chr(code))
                self.refused("1" + chr(code))
                self.refused("a " + chr(code) + " b")

    def test_blanks_of_other_sorts(self):
        for sign in ["\n", "\t", "\r", "\f", "\v", "\r\n", "\xa0", "\u2003", "\u3000", "\u200b", "\ufeff", "\x00"]:
            self.refused_anywhere(sign)

    def test_great_letters_and_lines(self):
        for piece in ["A", "Z", "aB", "Ab", "_", "a_b", "a\nb", "a\n", "\n"]:
            self.refused_anywhere(piece)

    def test_letters_and_figures_of_other_writings(self):
        for sign in ["\u00e9", "\u00df", "\u00aa", "\u0430", "\u03b1", "\u0131", "\u017f", "\uff41", "\u4e00",
                     "\u00b2", "\u00b9", "\u0661", "\u0967", "\uff11", "\u2460", "\U0001d7ce", "\U0001d41a",
                     "\u2212", "\u2013", "\u2010", "\uff08", "\uff1d", "\u0301", "\U0001f332", "\ud800"]:
            self.refused(sign)
            self.refused("a" + sign)
            self.refused("1" + sign)
            self.refused(sign + "1")
            self.refused("a " + sign + " b")

    def test_signs_nearby(self):
        for sign in ",.[]{}<>+/\\%&^!?@#$'\"`~":
            self.refused_anywhere(sign)

    def test_no_text(self):
        for thing in [0, 5, -1, True, False, None, [], ["a"], (), ("a",), {}, {"a": 1}, b"", b"a", 1.5, object(), str]:
            self.refused(thing)

    def test_a_refusal_changes_no_later_answer(self):
        self.refused("a -")
        self.assertEqual(words("a -1"), ["a", "-1"])


if __name__ == "__main__":
    unittest.main()
