import unittest
from unittest import mock

from tests import helper
from tests.helper import begin, drawn, job, join, last, tick
from turnshares import chance

BILLION = 1000000000
# Seeds for which the raw number of tick 1, this thing, count 0, try 0 is the one told.
JUST_BELOW_LIMIT = (497498186688423361, 14)
AT_LIMIT = (219561589687169330, 0)
GREATEST = (655628554691756796, 0)


class StirTest(unittest.TestCase):
    def test_known_numbers(self):
        # The first numbers of the widely known generator with these constants, begun with 0.
        known = (16294208416658607535, 7960286522194355700, 487617019471545679)
        for step, number in enumerate(known, start=1):
            self.assertEqual(chance.stirred(step * chance.G % chance.WORD), number)
            self.assertEqual(helper.stir(step * helper.G % helper.WORD), number)

    def test_edges(self):
        self.assertEqual(chance.stirred(0), 0)
        for z in (1, 2 ** 27, 2 ** 30, 2 ** 31, 2 ** 63, helper.WORD - 1):
            self.assertEqual(chance.stirred(z), helper.stir(z))


class RawNumberTest(unittest.TestCase):
    def test_by_the_words(self):
        seeds = (0, 1, 77, helper.FAR)
        rows = ((0, 0, 0, 0), (1, 0, 0, 0), (0, 1, 0, 0), (0, 0, 1, 0), (0, 0, 0, 1), (BILLION, 1000000, 1000000, 64))
        for seed in seeds:
            for row in rows:
                self.assertEqual(chance.raw_number(seed, *row), helper.raw(seed, *row))

    def test_each_part_matters(self):
        base = [5, 6, 7, 8, 9]
        numbers = {chance.raw_number(*base)}
        for place in range(5):
            other = list(base)
            other[place] += 1
            numbers.add(chance.raw_number(*other))
        self.assertEqual(len(numbers), 6)


class DrawTest(unittest.TestCase):
    def first_draw(self, seed, thing, sides):
        return drawn(last(begin(seed), join(1), job(1, thing, 1, sides), tick()))

    def test_raw_just_below_limit_is_taken(self):
        seed, thing = JUST_BELOW_LIMIT
        self.assertEqual(helper.raw(seed, 1, thing, 0, 0), helper.WORD - helper.WORD % BILLION - 1)
        self.assertEqual(self.first_draw(seed, thing, BILLION), [BILLION - 1])

    def test_raw_at_limit_is_not_taken(self):
        seed, thing = AT_LIMIT
        self.assertEqual(helper.raw(seed, 1, thing, 0, 0), helper.WORD - helper.WORD % BILLION)
        self.assertEqual(self.first_draw(seed, thing, BILLION), [helper.raw(seed, 1, thing, 0, 1) % BILLION])
        self.assertEqual(self.first_draw(seed, thing, BILLION), [310395636])

    def test_greatest_raw(self):
        seed, thing = GREATEST
        self.assertEqual(helper.raw(seed, 1, thing, 0, 0), helper.WORD - 1)
        self.assertEqual(self.first_draw(seed, thing, BILLION), [460026833])
        self.assertEqual(self.first_draw(seed, thing, 3), [helper.raw(seed, 1, thing, 0, 1) % 3])
        # Sides that divide WORD leave no raw number out.
        self.assertEqual(self.first_draw(seed, thing, 2 ** 29), [2 ** 29 - 1])

    def test_one_side(self):
        for seed, thing in (JUST_BELOW_LIMIT, AT_LIMIT, GREATEST, (0, 0)):
            self.assertEqual(self.first_draw(seed, thing, 1), [0])

    def test_several_tries(self):
        # With these many sides about every second try is left out.
        sides = 2 ** 63 + 1
        for count in range(40):
            self.assertEqual(chance.draw(3, 1, 4, count, sides), helper.draw(3, 1, 4, count, sides))

    def draw_with_raws(self, taken_from):
        def high_at_first(seed, tick_number, thing, count, attempt):
            return 100 + attempt if attempt >= taken_from else chance.WORD - 1

        with mock.patch.object(chance, "raw_number", high_at_first):
            return chance.draw(0, 0, 0, 0, 1000)

    def test_try_63_is_the_last_with_a_limit(self):
        self.assertEqual(self.draw_with_raws(63), 163)

    def test_try_64_is_taken_whatever_it_is(self):
        self.assertEqual(self.draw_with_raws(64), 164)
        self.assertEqual(self.draw_with_raws(65), (chance.WORD - 1) % 1000)


if __name__ == "__main__":
    unittest.main()
