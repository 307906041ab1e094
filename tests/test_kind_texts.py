import unittest
from copy import deepcopy

from samples import NO_TEXTS, nested
from widerkeys.errors import BadText
from widerkeys.kinds import Kind


class ShowTest(unittest.TestCase):
    def test_str(self):
        self.assertEqual(str(Kind(0, 255)), "0..255")
        self.assertEqual(str(Kind(-128, 127)), "-128..127")
        self.assertEqual(str(Kind(-5, 0)), "-5..0")
        self.assertEqual(str(Kind(0, 0)), "0..0")
        self.assertEqual(str(Kind.digits(3)), "0..999")
        self.assertEqual(str(Kind(1 - 10 ** 18, 10 ** 18 - 1)), "-" + "9" * 18 + ".." + "9" * 18)


class ReadTest(unittest.TestCase):
    def test_signed(self):
        for bits in range(1, 57):
            self.assertEqual(Kind.read(f"signed {bits}"), Kind.signed(bits))

    def test_unsigned(self):
        for bits in range(1, 57):
            self.assertEqual(Kind.read(f"unsigned {bits}"), Kind.unsigned(bits))

    def test_digits(self):
        for many in range(1, 18):
            self.assertEqual(Kind.read(f"digits {many}"), Kind.digits(many))

    def test_ends(self):
        self.assertEqual(Kind.read("0..255"), Kind(0, 255))
        self.assertEqual(Kind.read("-5..0"), Kind(-5, 0))
        self.assertEqual(Kind.read("0..0"), Kind(0, 0))
        self.assertEqual(Kind.read("-10..100"), Kind(-10, 100))

    def test_what_str_shows_is_read(self):
        kinds = [Kind(low, high) for low in (-10 ** 18 + 1, -10 ** 17, -101, -1, 0) for high in (0, 9, 10 ** 18 - 1)]
        for kind in kinds:
            with self.subTest(str(kind)):
                self.assertEqual(Kind.read(str(kind)), kind)

    def test_by_name(self):
        self.assertEqual(Kind.read(text="signed 8"), Kind(-128, 127))


class BadTextTest(unittest.TestCase):
    def assert_bad(self, *texts):
        for text in texts:
            with self.subTest(text=text):
                before = deepcopy(text)
                with self.assertRaises(BadText) as caught:
                    Kind.read(text)
                self.assertIs(caught.exception.value, text)
                self.assertEqual(text, before)

    def test_what_is_no_text(self):
        self.assert_bad(*NO_TEXTS, nested(20))

    def test_no_such_kind(self):
        self.assert_bad("signed 0", "signed 57", "unsigned 0", "unsigned 57", "digits 0", "digits 18")
        self.assert_bad("signed -1", "unsigned -8", "digits -3", "signed 100", "unsigned " + "9" * 18)
        self.assert_bad("1..2", "-2..-1", "5..-5", "0..-1", "1..0", "1..1", "-1..-1")

    def test_zeros_ahead(self):
        self.assert_bad("signed 08", "unsigned 01", "digits 00", "digits 003")
        self.assert_bad("00..5", "0..05", "0..00", "-05..5", "-5..005")

    def test_minus_zero(self):
        self.assert_bad("-0..5", "-5..-0", "-0..-0", "-00..5", "signed -0", "digits -0")

    def test_signs(self):
        self.assert_bad("signed +8", "digits +3", "+0..5", "0..+5", "--5..5", "-..5", "0..-", "- 5..5", "5-..5")

    def test_blanks(self):
        self.assert_bad(" signed 8", "signed  8", "signed 8 ", "signed 8\n", "signed\t8", "signed\n8", "\nsigned 8")
        self.assert_bad(" 0..5", "0..5 ", "0 ..5", "0.. 5", "0 .. 5", "0..5\n", "\t0..5", " ", "")

    def test_words(self):
        self.assert_bad("signed", "unsigned", "digits", "signed ", "unsigned ", "digits ", "signed8", "8 signed")
        self.assert_bad("Signed 8", "UNSIGNED 8", "bits 8", "digit 3", "sign 8", "kind 0..5", "signed 8 8")
        self.assert_bad("signed 0..5", "signed 8..8", "digits 3.0", "signed eight", "signed None", "signed 8.")

    def test_dots(self):
        self.assert_bad("0", "255", "..", "0..", "..5", "0.5", "0...5", "0....5", "0..5..9", ".0..5", "0..5.", "0,5")
        self.assert_bad("0-5", "a..b", "0..a", "a..5", "0..5a", "None..None", "True..True", "0x0..0xf", "0..1_0")

    def test_other_scripts(self):
        self.assert_bad("signed \u0668", "0..\u0665", "\u0660..5", "0..\u00b2", "\uff10..5", "signed\u00a08", "0\u20255")

    def test_more_than_18_digits(self):
        self.assert_bad("0..1" + "0" * 18, "-1" + "0" * 18 + "..0", "signed 1" + "0" * 18, "digits " + "1" * 3900)


if __name__ == "__main__":
    unittest.main()
