"""Points 51 to 55, with 2 and 4, and the interface of sumwires.steps."""

import unittest

from reckon import all_sums, are_free, at, draw, parity, rank_of, rising
from sumwires.steps import across, base, chain, null_sums, rank, sum_for


def small_rows():
    """Many lists of few rows of small widths, each with its width."""
    for seed in range(250):
        chance = draw(seed)
        width = chance.randrange(6)
        yield [chance.randrange(2 ** width) for _ in range(chance.randrange(8))], width


def great_rows():
    for seed, (count, width, few) in enumerate([(300, 300, 300), (300, 300, 20), (300, 40, 40), (30, 300, 300)]):
        chance = draw(seed)
        seeds = [chance.randrange(2 ** width) for _ in range(few)]
        yield [seeds[chance.randrange(few)] ^ seeds[chance.randrange(few)] for _ in range(count)], width


class Papers(unittest.TestCase):
    def base_holds(self, rows):
        told = base(rows)
        self.assertTrue(rising(told))
        self.assertIs(type(rank(rows)), int)
        self.assertEqual(rank(rows), len(told))
        self.assertEqual(len(told), rank_of(rows))
        self.assertTrue(are_free([rows[place] for place in told]))
        return told

    def nulls_hold(self, rows):
        told = null_sums(rows)
        self.assertIs(type(told), list)
        self.assertEqual(len(told), len(rows) - rank_of(rows))
        for places in told:
            self.assertTrue(rising(places))
            self.assertEqual(at(rows, places), 0)
        self.assertTrue(are_free([sum(1 << place for place in places) for places in told]))

    def across_holds(self, rows, width):
        told = across(rows, width)
        self.assertIs(type(told), list)
        self.assertEqual(len(told), width - rank_of(rows))
        for mask in told:
            self.assertIs(type(mask), int)
            self.assertTrue(0 <= mask < 2 ** width)
            self.assertEqual([row for row in rows if parity(row & mask)], [])
        self.assertTrue(are_free(told))

    def sum_holds(self, rows, wish):
        kept = list(rows)
        told = sum_for(rows, wish)
        self.assertEqual(rows, kept)
        self.assertIs(type(told), tuple)
        self.assertEqual(len(told), 2)
        if told[0] == "sum":
            self.assertTrue(rising(told[1]))
            self.assertEqual(at(rows, told[1]), wish)
        else:
            self.assertEqual(told[0], "no")
            self.assertIs(type(told[1]), int)
            self.assertTrue(0 <= told[1] < 2 ** 300)
            self.assertEqual([row for row in rows if parity(row & told[1])], [])
            self.assertEqual(parity(wish & told[1]), 1)
        return told[0]


class SmallTest(Papers):
    def test_base(self):
        for rows, _ in small_rows():
            told = self.base_holds(rows)
            wished = [place for place, row in enumerate(rows) if row not in all_sums(rows[:place])]
            self.assertEqual(told, wished)

    def test_sum_for_each_wish(self):
        for rows, width in small_rows():
            sums = all_sums(rows)
            for wish in range(2 ** width * 2):
                self.assertEqual(self.sum_holds(rows, wish), "sum" if wish in sums else "no")

    def test_null_sums(self):
        for rows, _ in small_rows():
            self.nulls_hold(rows)

    def test_across(self):
        for rows, width in small_rows():
            for wider in (width, width + 3):
                self.across_holds(rows, wider)
                right = {mask for mask in range(2 ** wider) if not any(parity(mask & row) for row in rows)}
                self.assertEqual(set(all_sums(across(rows, wider))), right)


class EdgesTest(Papers):
    def test_no_rows(self):
        self.assertEqual((rank([]), base([]), null_sums([])), (0, [], []))
        self.assertEqual(sum_for([], 0), ("sum", []))
        for wish in (1, 6, 2 ** 299, 2 ** 300 - 1):
            self.assertEqual(self.sum_holds([], wish), "no")
        self.assertEqual(across([], 0), [])
        self.across_holds([], 300)

    def test_rows_0(self):
        self.assertEqual((rank([0, 0]), base([0, 0])), (0, []))
        self.assertEqual(null_sums([0, 0]), [[0], [1]])
        self.assertEqual(sum_for([0, 0], 0)[0], "sum")
        self.assertEqual(self.sum_holds([0, 0], 5), "no")
        self.assertEqual(across([0, 0], 0), [])
        self.across_holds([0, 0], 4)

    def test_rows_alike(self):
        self.assertEqual((rank([5, 5, 5]), base([0, 5, 5, 5])), (1, [1]))
        self.nulls_hold([5, 5, 5])
        self.assertEqual(self.sum_holds([5, 5, 5], 5), "sum")
        self.assertEqual(self.sum_holds([5, 5, 5], 4), "no")
        self.across_holds([5, 5, 5], 3)

    def test_the_first_ones_are_taken(self):
        self.assertEqual(base([3, 5, 6, 1, 7]), [0, 1, 3])

    def test_rows_that_were_handed_in_stay(self):
        rows = [3, 5, 6, 0, 3]
        for call in (rank, base, null_sums, lambda one: across(one, 3), lambda one: sum_for(one, 4)):
            call(rows)
            self.assertEqual(rows, [3, 5, 6, 0, 3])

    def test_told_lists_are_new(self):
        rows = [3, 3, 0]
        for call in (base, null_sums, lambda one: across(one, 4), lambda one: sum_for(one, 3)[1]):
            before = repr(call(rows))
            told = call(rows)
            told.append(7)
            if isinstance(told[0], list):
                told[0].append(7)
            self.assertEqual(repr(call(rows)), before)

    def test_by_keywords(self):
        self.assertEqual(sum_for(rows=[1, 2], wish=3), ("sum", [0, 1]))
        self.assertEqual(across(rows=[1], width=2), [2])
        self.assertEqual((rank(rows=[1]), base(rows=[1]), null_sums(rows=[0])), (1, [0], [[0]]))


class GreatTest(Papers):
    def test_three_hundred(self):
        for rows, width in great_rows():
            self.base_holds(rows)
            self.nulls_hold(rows)
            self.across_holds(rows, width)
            self.across_holds(rows, 300)

    def test_sums_for_wishes(self):
        for seed, (rows, width) in enumerate(great_rows()):
            chance = draw(seed)
            for _ in range(6):
                places = [place for place in range(len(rows)) if chance.randrange(2)]
                self.assertEqual(self.sum_holds(rows, at(rows, places)), "sum")
                self.sum_holds(rows, chance.randrange(2 ** 300))
            for row in rows[:5]:
                self.assertEqual(self.sum_holds(rows, row), "sum")
            if width < 300:
                self.assertEqual(self.sum_holds(rows, 2 ** 299 ^ rows[0]), "no")

    def test_units(self):
        rows = [1 << place for place in range(300)]
        self.assertEqual(base(rows[::-1]), list(range(300)))
        self.assertEqual(null_sums(rows), [])
        self.assertEqual(across(rows, 300), [])
        self.assertEqual(sum_for(rows, 2 ** 300 - 1), ("sum", list(range(300))))
        self.across_holds(rows[5:], 300)


class WidthTest(Papers):
    def test_a_mask_that_bars_is_no_wider_than_rows_and_wish(self):
        for rows, width in small_rows():
            for wish in range(2 ** width):
                told = sum_for(rows, wish)
                if told[0] == "no":
                    self.assertLess(told[1], 2 ** width)


class ChainTest(unittest.TestCase):
    def test_cut_where_it_comes_to_a_sum(self):
        self.assertEqual(chain([0, 5]), ([], []))
        self.assertEqual(chain([1, 0]), ([1], [[]]))
        self.assertEqual(chain([1, 1]), ([1], [[0]]))
        self.assertEqual(chain([1, 2, 4, 7, 9]), ([1, 2, 4], [[1], [2], [0, 1, 2]]))


if __name__ == "__main__":
    unittest.main()
