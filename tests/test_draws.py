import unittest

from tests import helper
from tests.helper import FAR, ask, assert_refused, begin, drawn, draw_of, job, join, last, raw_of, tick

BILLION = 1000000000
MILLION = 1000000
WORD = helper.WORD
BUSY = [begin(5, 20000, 1000), join(1, 2), join(2), job(1, 4, 9000), job(2, 4, 9000), job(1, 4, 9000), tick()]
SEEDS = (0, 1, 99, 123456789, FAR)
# At each edge of tick, thing and count, and between.
PLACES = [(0, 0, 0), (BILLION, 0, 0), (0, MILLION, 0), (0, 0, MILLION), (BILLION, MILLION, MILLION), (3, 4, 5),
          (BILLION - 1, MILLION - 1, MILLION - 1), (1, 0, 0), (0, 1, 0), (0, 0, 1)]
OUTSIDE = [(-1, 0, 0), (BILLION + 1, 0, 0), (0, -1, 0), (0, MILLION + 1, 0), (0, 0, -1), (0, 0, MILLION + 1),
           (FAR, 0, 0), (-FAR, 0, 0), (0, FAR, 0), (0, -FAR, 0), (0, 0, FAR), (0, 0, -FAR), (-1, -1, -1)]
# A raw number of tick 1, count 0, try 0, and the seed and the thing that have it.
RAWS = ((0, 861281104915904192, 3), (2 ** 32 - 1, 643270838013849490, 1), (2 ** 32, 439422823735415254, 19),
        (WORD - 2 ** 32, 556391186271831698, 11), (WORD - 1, 655628554691756796, 0))
AT_LIMIT = (219561589687169330, 0)
BELOW_LIMIT = (497498186688423361, 14)


class DrawTest(unittest.TestCase):
    def test_by_the_words(self):
        # Of these sides 1, 2, 1024 and 536870912 divide WORD.
        for seed in SEEDS:
            for sides in (1, 2, 3, 6, 1000, 1024, 536870912, 999999999, BILLION):
                calls = [draw_of(*place, sides) for place in PLACES]
                expected = [[0, helper.draw(seed, *place, sides)] for place in PLACES]
                self.assertEqual(ask(begin(seed), *calls)[1:], expected)

    def test_known_draws(self):
        # Worked out once by the document's words.
        calls = [draw_of(0, 0, 0, 1000), draw_of(BILLION, MILLION, MILLION, BILLION)]
        self.assertEqual(ask(*calls), [[0, 286], [0, 434836949]])
        self.assertEqual(ask(begin(1), *calls)[1:], [[0, 381], [0, 987126028]])
        self.assertEqual(ask(begin(99), *calls)[1:], [[0, 891], [0, 958466336]])
        self.assertEqual(ask(begin(FAR), *calls)[1:], [[0, 761], [0, 147537674]])

    def test_one_side(self):
        for seed in SEEDS:
            for place in PLACES:
                self.assertEqual(last(begin(seed), draw_of(*place, 1)), [0, 0])

    def test_raw_numbers_at_the_limit(self):
        limit = WORD - WORD % BILLION
        seed, thing = BELOW_LIMIT
        self.assertEqual(helper.raw(seed, 1, thing, 0, 0), limit - 1)
        self.assertEqual(last(begin(seed), draw_of(1, thing, 0, BILLION)), [0, BILLION - 1])
        seed, thing = AT_LIMIT
        self.assertEqual(helper.raw(seed, 1, thing, 0, 0), limit)
        self.assertEqual(last(begin(seed), draw_of(1, thing, 0, BILLION)),
                         [0, helper.raw(seed, 1, thing, 0, 1) % BILLION])

    def test_greatest_raw_number(self):
        number, seed, thing = RAWS[-1]
        # Sides that divide WORD leave no raw number out, others leave out the greatest.
        self.assertEqual(last(begin(seed), draw_of(1, thing, 0, 1024)), [0, 1023])
        self.assertEqual(last(begin(seed), draw_of(1, thing, 0, 1000)), [0, helper.raw(seed, 1, thing, 0, 1) % 1000])

    def test_each_side_comes(self):
        found = [last(begin(8), draw_of(2, 3, count, 6))[1] for count in range(100)]
        self.assertEqual(sorted(set(found)), [0, 1, 2, 3, 4, 5])

    def test_it_is_what_jobs_draw(self):
        calls = [begin(77), join(1), join(2), tick(4), job(1, 9, 100, 5000), job(2, 9, 100, 500), job(1, 8, 100, 50),
                 job(2, 9, 100, 5), tick()]
        row = ask(*calls, draw_of(5, 9, 0, 5000), draw_of(5, 9, 1, 500), draw_of(5, 8, 0, 50), draw_of(5, 9, 2, 5))
        self.assertEqual(drawn(row[-5]), [answer[1] for answer in row[-4:]])

    def test_asking_is_no_draw_of_a_thing(self):
        plain = last(*BUSY, tick())
        asked = last(*BUSY, draw_of(2, 4, 0), draw_of(2, 4, 1), raw_of(2, 4, 0), tick())
        self.assertEqual(asked, plain)

    def test_nothing_but_the_seed_of_what_was_before_matters(self):
        call = draw_of(1, 4, 1, MILLION)
        self.assertEqual(last(*BUSY, call), last(begin(5), call))
        self.assertNotEqual(last(*BUSY, call), last(begin(6), call))
        self.assertEqual(last(*BUSY, begin(6), call), last(begin(6), call))

    def test_sides_taken_and_just_outside(self):
        self.assertEqual(last(*BUSY, draw_of(0, 0, 0, 1)), [0, 0])
        self.assertEqual(last(*BUSY, draw_of(0, 0, 0, BILLION))[0], 0)
        for sides in (0, -1, BILLION + 1, FAR, -FAR):
            assert_refused(self, BUSY, draw_of(0, 0, 0, sides), -1)

    def test_places_just_outside(self):
        for place in OUTSIDE:
            assert_refused(self, BUSY, draw_of(*place), -1)
        assert_refused(self, BUSY, draw_of(-1, MILLION + 1, -1, 0), -1)


class RawTest(unittest.TestCase):
    def test_by_the_words(self):
        for seed in SEEDS:
            for place in PLACES:
                answered = last(begin(seed), raw_of(*place))
                number = helper.raw(seed, *place, 0)
                self.assertEqual(answered, [0, number // 2 ** 32, number % 2 ** 32])
                self.assertEqual(answered[1] * 4294967296 + answered[2], number)

    def test_known_numbers(self):
        # Worked out once by the document's words: 18277698510252227712 and 6134320415700145848.
        self.assertEqual(last(raw_of(3, 4, 5)), [0, 4255608308, 2806332544])
        self.assertEqual(last(begin(1), raw_of(3, 4, 5)), [0, 1428257770, 3292255928])

    def test_edges_of_the_two_parts(self):
        for number, seed, thing in RAWS:
            self.assertEqual(helper.raw(seed, 1, thing, 0, 0), number)
        answered = [last(begin(seed), raw_of(1, thing, 0)) for number, seed, thing in RAWS]
        most = 2 ** 32 - 1
        self.assertEqual(answered, [[0, 0, 0], [0, 0, most], [0, 1, 0], [0, most, 0], [0, most, most]])

    def test_it_is_the_try_0_whatever_the_limit(self):
        seed, thing = AT_LIMIT
        answered = last(begin(seed), raw_of(1, thing, 0))
        self.assertEqual(answered[1] * 2 ** 32 + answered[2], WORD - WORD % BILLION)

    def test_places_just_outside(self):
        for place in OUTSIDE:
            assert_refused(self, BUSY, raw_of(*place), -1)


if __name__ == "__main__":
    unittest.main()
