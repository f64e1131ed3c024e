import unittest

from tests.helper import (FAR, ask, assert_refused, begin, done, job, join, last, leave, order, players, state, tick,
                          weigh)

# Each share of weight 1 pays for one job, and a tick for two.
EVEN = [begin(0, 20000, 10000), join(1), join(2)] + [job(1, 0, 10000), job(2, 0, 10000)] * 6


class WeighTest(unittest.TestCase):
    def test_that_is_their_weight(self):
        answered = ask(join(5, 7), join(6, 8), weigh(6, 9), players(), weigh(5, 100), weigh(6, 1), players())
        self.assertEqual(answered[2:4], [[0], [0, 5, 7, 0, 0, 0, 6, 9, 0, 0, 0]])
        self.assertEqual(answered[4:], [[0], [0], [0, 5, 100, 0, 0, 0, 6, 1, 0, 0, 0]])

    def test_edges_taken(self):
        for weight in (1, 2, 99, 100):
            self.assertEqual(ask(join(1, 50), weigh(1, weight), players())[1:], [[0], [0, 1, weight, 0, 0, 0]])
        self.assertEqual(ask(join(999, 50), weigh(999, 3), players())[1:], [[0], [0, 999, 3, 0, 0, 0]])

    def test_weight_just_outside(self):
        for weight in (0, 101, -1, FAR, -FAR):
            assert_refused(self, EVEN + [tick()], weigh(1, weight), -1)

    def test_nobody_of_that_number(self):
        # Of the player no number is out of its range: nobody is there.
        for number in (3, 0, 1000, -1, FAR, -FAR):
            assert_refused(self, EVEN + [tick()], weigh(number, 5), -2)
        self.assertEqual(ask(weigh(1, 1)), [[-2]])
        self.assertEqual(last(join(1), leave(1), weigh(1, 2)), [-2])

    def test_the_refusal_nearest_to_0(self):
        for number, weight in ((3, 0), (3, 101), (FAR, FAR), (0, 0)):
            assert_refused(self, EVEN + [tick()], weigh(number, weight), -1)

    def test_before_the_turn_has_begun(self):
        calls = [job(1, 0, 300), job(2, 0, 100), tick()]
        self.assertEqual(order(last(join(1), join(2), *calls)), [2, 1])
        self.assertEqual(order(last(join(1), join(2), weigh(1, 3), *calls)), [1, 2])
        self.assertEqual(order(last(join(1, 3), join(2), weigh(1, 2), *calls)), [2, 1])

    def test_between_ticks_of_a_turn_that_has_begun(self):
        # Behind the first tick 1's turn has begun with a share of weight 1: the new weight counts from the next one on.
        answered = ask(*EVEN, tick(), weigh(1, 3), players(), tick(), players(), tick(), players(), tick())
        self.assertEqual(done(answered[-8]), [(1, 1), (2, 2)])
        self.assertEqual(answered[-6], [0, 1, 3, 5, 10000, 10000, 2, 1, 5, 0, 10000])
        self.assertEqual(done(answered[-5]), [(3, 1), (4, 2)])
        self.assertEqual(answered[-4], [0, 1, 3, 4, 30000, 20000, 2, 1, 4, 0, 20000])
        self.assertEqual(done(answered[-3]), [(5, 1), (7, 1)])
        self.assertEqual(answered[-2], [0, 1, 3, 2, 10000, 40000, 2, 1, 4, 0, 20000])
        self.assertEqual(done(answered[-1]), [(9, 1), (6, 2)])

    def test_between_ticks_of_a_turn_that_has_not_begun(self):
        answered = ask(*EVEN, tick(), weigh(2, 2), tick(), players(), tick(), players())
        self.assertEqual(done(answered[-4]), [(3, 1), (4, 2)])
        # Of 2's share of 20000 one half is left, and no budget for it.
        self.assertEqual(answered[-3], [0, 1, 1, 4, 0, 20000, 2, 2, 4, 10000, 20000])
        self.assertEqual(done(answered[-2]), [(6, 2), (5, 1)])
        self.assertEqual(answered[-1], [0, 1, 1, 3, 0, 30000, 2, 2, 3, 20000, 30000])

    def test_what_is_saved_up_stays(self):
        before = [begin(0, 20000, 10000), join(1, 100), join(2)] + [job(1, 0, 10000)] * 5 + [job(2, 0, 1), tick()]
        answered = ask(*before, weigh(1, 1), players(), tick(), players(), tick())
        self.assertEqual(answered[-4], [0, 1, 1, 3, 980000, 20000, 2, 1, 1, 0, 0])
        # The turn that has begun goes on, without another share.
        self.assertEqual(order(answered[-3]), [3, 4])
        self.assertEqual(answered[-2], [0, 1, 1, 1, 960000, 40000, 2, 1, 1, 0, 0])
        self.assertEqual(order(answered[-1]), [5, 6])

    def test_turn_stays_as_it_is(self):
        for before in (EVEN, EVEN + [tick()], EVEN + [job(1, 0, 1), tick(2)]):
            asked = ask(*before, state(), weigh(1, 9), state(), weigh(2, 9), state())
            self.assertEqual(asked[-5], asked[-3])
            self.assertEqual(asked[-5], asked[-1])

    def test_until_the_player_leaves_or_all_begins(self):
        self.assertEqual(last(join(1, 5), weigh(1, 9), leave(1), join(1, 5), players()), [0, 1, 5, 0, 0, 0])
        self.assertEqual(last(join(1, 5), weigh(1, 9), begin(), join(1, 5), players()), [0, 1, 5, 0, 0, 0])


if __name__ == "__main__":
    unittest.main()
