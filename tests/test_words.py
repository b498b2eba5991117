"""Points 2, 3 and 11 to 15, with 4 and 5, and the interface of sumwires.words."""

import unittest

from sumwires import words
from sumwires.errors import BadRow, WireError

OTHER_KINDS = [None, True, False, "", "a", "1", [], [1], (), (1, 2), {}, {"a": 1}, 0.0, 1.0, b"a", {1}, object(), int]
SOME_MASKS = [0, 1, 2, 3, 6, 255, 2 ** 64, 2 ** 150 + 2 ** 7 + 1, 2 ** 299 + 2, (2 ** 300 - 1) // 3]
SIGNS = [chr(number) for number in range(32, 127)] + ["\n"]
LETTERS = "abcdefghijklmnopqrstuvwxyz"
FIGURES = "0123456789"


class Asking(unittest.TestCase):
    def is_true(self, told):
        self.assertIs(told, True)

    def is_false(self, told):
        self.assertIs(told, False)


class WholeTest(Asking):
    def test_whole_numbers(self):
        for number in (0, 1, -1, 7, 2 ** 300, -(2 ** 300), 10 ** 5000):
            self.is_true(words.is_whole(number))

    def test_other_kinds(self):
        for thing in OTHER_KINDS:
            with self.subTest(thing=thing):
                self.is_false(words.is_whole(thing))

    def test_by_keyword(self):
        self.is_true(words.is_whole(thing=3))


class MaskTest(Asking):
    def test_edges_of_each_width(self):
        for width in range(201):
            with self.subTest(width=width):
                self.is_true(words.is_mask(0, width))
                self.is_true(words.is_mask(2 ** width - 1, width))
                self.is_false(words.is_mask(2 ** width, width))
                self.is_false(words.is_mask(2 ** width + 1, width))
                self.is_false(words.is_mask(-1, width))
                self.is_false(words.is_mask(-(2 ** width), width))

    def test_every_number_near_small_widths(self):
        for width in range(7):
            for number in range(-130, 130):
                self.assertIs(words.is_mask(number, width), 0 <= number < 2 ** width)

    def test_other_kinds(self):
        for thing in OTHER_KINDS:
            for width in (0, 1, 2, 200):
                with self.subTest(thing=thing, width=width):
                    self.is_false(words.is_mask(thing, width))

    def test_by_keyword(self):
        self.is_true(words.is_mask(thing=3, width=2))
        self.is_false(words.is_mask(width=1, thing=3))


class NameTest(Asking):
    def test_names(self):
        for thing in ("a", "z", "a0", "z9", "abcdef", "a12345", "xyz789", "in", "sum"):
            self.is_true(words.is_name(thing))

    def test_lengths(self):
        for length in range(12):
            self.assertIs(words.is_name("a" * length), 1 <= length <= 6)

    def test_every_sign_first(self):
        for sign in SIGNS:
            with self.subTest(sign=sign):
                self.assertIs(words.is_name(sign), sign in LETTERS)
                self.assertIs(words.is_name(sign + "a1"), sign in LETTERS)

    def test_every_sign_at_every_later_place(self):
        for place in range(1, 6):
            for sign in SIGNS:
                for length in range(place, 6):
                    text = "abcdef"[:place] + sign + "abcdef"[place:length]
                    with self.subTest(text=text):
                        self.assertIs(words.is_name(text), sign in LETTERS + FIGURES)

    def test_letters_and_figures_of_other_scripts(self):
        for thing in ("\u00e4", "a\u0661", "a\u00b2", "\uff41"):
            self.is_false(words.is_name(thing))

    def test_other_kinds(self):
        for thing in (None, True, False, 0, 1, [], ["a"], (), ("a",), {}, {"a": "a"}, b"a", 1.5, {"a"}, object(), str):
            with self.subTest(thing=thing):
                self.is_false(words.is_name(thing))

    def test_by_keyword(self):
        self.is_true(words.is_name(thing="a"))


class BitsTest(Asking):
    def test_even_at_the_edges(self):
        self.is_true(words.even(0))
        for count in range(1, 301):
            self.assertIs(words.even(2 ** count - 1), count % 2 == 0)
            self.is_false(words.even(2 ** (count - 1)))

    def test_even_of_two_bits(self):
        for one in range(0, 300, 7):
            for other in range(300):
                self.assertIs(words.even(2 ** one ^ 2 ** other), True)
                self.assertIs(words.even(2 ** one ^ 2 ** other ^ 1), False)

    def test_even_of_each_small_mask(self):
        for mask in range(2048):
            self.assertIs(words.even(mask), bin(mask).count("1") % 2 == 0)
        for mask in SOME_MASKS:
            self.assertIs(words.even(mask), bin(mask).count("1") % 2 == 0)

    def test_bits_of_single_bits(self):
        self.assertEqual(words.bits_of(0), [])
        for place in range(300):
            self.assertEqual(words.bits_of(2 ** place), [place])

    def test_bits_of_all_bits(self):
        for count in (1, 2, 64, 299, 300):
            self.assertEqual(words.bits_of(2 ** count - 1), list(range(count)))

    def test_bits_of_some_masks(self):
        self.assertEqual(words.bits_of(6), [1, 2])
        self.assertEqual(words.bits_of(2 ** 299 + 2 ** 17 + 5), [0, 2, 17, 299])
        for mask in range(1024):
            self.assertEqual(words.bits_of(mask), [k for k in range(10) if mask // 2 ** k % 2 == 1])

    def test_bits_of_tells_a_new_list(self):
        told = words.bits_of(13)
        self.assertIs(type(told), list)
        told.append(99)
        told[0] = 50
        self.assertEqual(words.bits_of(13), [0, 2, 3])

    def test_by_keyword(self):
        self.is_true(words.even(number=3))
        self.assertEqual(words.bits_of(mask=3), [0, 1])
        self.assertEqual(words.mask_of(places=[0, 1]), 3)


class MaskOfTest(Asking):
    def test_counts_over_two(self):
        self.assertEqual(words.mask_of([]), 0)
        self.assertEqual(words.mask_of([5]), 32)
        self.assertEqual(words.mask_of([5, 5]), 0)
        self.assertEqual(words.mask_of([5, 5, 5]), 32)
        self.assertEqual(words.mask_of([5, 2, 5, 0, 5, 2]), 33)
        self.assertEqual(words.mask_of([299, 0, 299]), 1)

    def test_any_order(self):
        self.assertEqual(words.mask_of([3, 1, 2]), 14)
        self.assertEqual(words.mask_of([299, 0, 7]), 2 ** 299 + 129)
        self.assertEqual(words.mask_of(list(reversed(range(300)))), 2 ** 300 - 1)

    def test_single_places(self):
        for place in range(300):
            self.assertEqual(words.mask_of([place]), 2 ** place)

    def test_there_and_back(self):
        for mask in SOME_MASKS:
            self.assertEqual(words.mask_of(words.bits_of(mask)), mask)

    def test_what_is_handed_in_stays(self):
        places = [4, 1, 4, 4, 0]
        self.assertEqual(words.mask_of(places), words.mask_of(places))
        self.assertEqual(places, [4, 1, 4, 4, 0])

    def test_told_is_a_whole_number(self):
        self.assertIs(type(words.mask_of([])), int)
        self.assertIs(type(words.mask_of([0])), int)


class RowTest(Asking):
    def refused(self, thing):
        with self.assertRaises(BadRow) as caught:
            words.mask_in(thing)
        self.assertIsInstance(caught.exception, WireError)

    def test_written(self):
        self.assertEqual(words.text_of(6, 4), "0110")
        self.assertEqual(words.text_of(1, 4), "1000")
        self.assertEqual(words.text_of(8, 4), "0001")
        self.assertEqual(words.text_of(0, 0), "")
        self.assertEqual(words.text_of(0, 3), "000")
        self.assertEqual(words.text_of(0, 64), "0" * 64)
        self.assertEqual(words.text_of(2 ** 64 - 1, 64), "1" * 64)
        self.assertEqual(words.text_of(2 ** 63, 64), "0" * 63 + "1")

    def test_read(self):
        self.assertEqual(words.mask_in("0110"), (6, 4))
        self.assertEqual(words.mask_in(""), (0, 0))
        self.assertEqual(words.mask_in("0"), (0, 1))
        self.assertEqual(words.mask_in("10"), (1, 2))
        self.assertEqual(words.mask_in("1" * 64), (2 ** 64 - 1, 64))
        self.assertEqual(words.mask_in("0" * 63 + "1"), (2 ** 63, 64))

    def test_kinds(self):
        self.assertIs(type(words.text_of(5, 3)), str)
        told = words.mask_in("101")
        self.assertIs(type(told), tuple)
        self.assertEqual([type(part) for part in told], [int, int])

    def test_there_and_back(self):
        for width in range(8):
            for mask in range(2 ** width):
                self.assertEqual(words.mask_in(words.text_of(mask, width)), (mask, width))
        for width in range(65):
            for mask in (0, 2 ** width - 1, (2 ** width - 1) // 3):
                row = words.text_of(mask, width)
                self.assertEqual(words.mask_in(row), (mask, width))
                self.assertEqual(words.text_of(*words.mask_in(row)), row)

    def test_no_text_is_refused(self):
        for thing in (None, True, False, 0, 1, 10, 1.0, b"01", [], ["0", "1"], (), ("0",), {}, {"0": "1"}, object(), str):
            with self.subTest(thing=thing):
                self.refused(thing)

    def test_other_signs_are_refused_at_any_place(self):
        for sign in SIGNS + ["\u0660", "\u00b9", "\uff11"]:
            if sign in ("0", "1"):
                continue
            with self.subTest(sign=sign):
                self.refused(sign)
                for place in range(5):
                    self.refused("0110"[:place] + sign + "0110"[place:])
                self.refused("1" * 63 + sign)

    def test_too_many_signs_are_refused(self):
        for length in (65, 66, 128, 1000, 20000):
            self.refused("0" * length)
            self.refused("1" * length)

    def test_what_is_refused_stays(self):
        thing = ["0", ["1"]]
        self.refused(thing)
        self.assertEqual(thing, ["0", ["1"]])
        self.assertEqual(words.mask_in("01"), (2, 2))

    def test_by_keyword(self):
        self.assertEqual(words.text_of(mask=1, width=2), "10")
        self.assertEqual(words.mask_in(text="10"), (1, 2))


class WordsTest(Asking):
    def test_words(self):
        self.assertEqual(words.words_of("sum a = b c"), ["sum", "a", "=", "b", "c"])
        self.assertEqual(words.words_of("in"), ["in"])

    def test_words_without_signs(self):
        self.assertEqual(words.words_of(""), [""])
        self.assertEqual(words.words_of(" "), ["", ""])
        self.assertEqual(words.words_of("   "), ["", "", "", ""])
        self.assertEqual(words.words_of(" a"), ["", "a"])
        self.assertEqual(words.words_of("a "), ["a", ""])
        self.assertEqual(words.words_of("a  b"), ["a", "", "b"])
        self.assertEqual(words.words_of("  a   b "), ["", "", "a", "", "", "b", ""])

    def test_other_signs_part_nothing(self):
        for sign in SIGNS:
            if sign == " ":
                continue
            with self.subTest(sign=sign):
                self.assertEqual(words.words_of(sign), [sign])
                self.assertEqual(words.words_of("a" + sign + "b"), ["a" + sign + "b"])
                self.assertEqual(words.words_of(sign + " " + sign), [sign, sign])

    def test_one_more_than_blanks(self):
        for row in ("", " ", "a b", " a\nb ", "\n \n", "a  b  c"):
            told = words.words_of(row)
            self.assertEqual(len(told), row.count(" ") + 1)
            self.assertEqual(" ".join(told), row)

    def test_told_is_a_new_list(self):
        told = words.words_of("a b")
        self.assertIs(type(told), list)
        told.append("c")
        told[0] = "z"
        self.assertEqual(words.words_of("a b"), ["a", "b"])

    def test_by_keyword(self):
        self.assertEqual(words.words_of(row="a b"), ["a", "b"])


class PackedTest(Asking):
    def test_masks_of_one_width_behind_one_another(self):
        self.assertEqual(words.packed([1, 2, 3], 2), 0b111001)
        self.assertEqual(words.unpacked(0b111001, 2, 3), [1, 2, 3])
        self.assertEqual(words.packed([], 5), 0)
        self.assertEqual(words.unpacked(0, 5, 0), [])

    def test_no_width(self):
        self.assertEqual(words.packed([0, 0], 0), 0)
        self.assertEqual(words.unpacked(0, 0, 3), [0, 0, 0])

    def test_there_and_back(self):
        for width in (1, 6, 64):
            masks = [number * 7 % 2 ** width for number in range(40)]
            self.assertEqual(words.unpacked(words.packed(masks, width), width, 40), masks)


class SameAnswerTest(Asking):
    def test_each_question_twice(self):
        questions = [
            (words.is_whole, (5,)), (words.is_mask, (5, 3)), (words.is_name, ("a5",)), (words.even, (5,)),
            (words.bits_of, (5,)), (words.mask_of, ([5, 5, 1],)), (words.text_of, (5, 4)),
            (words.mask_in, ("101",)), (words.words_of, (" a b",)),
        ]
        for ask, given in questions:
            self.assertEqual(ask(*given), ask(*given))


if __name__ == "__main__":
    unittest.main()
