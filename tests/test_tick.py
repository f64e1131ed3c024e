import unittest

from tests import helper
from tests.helper import FAR, ask, begin, done, drawn, job, join, last, order, players, queue, tick
from turnshares.calls import answer
from turnshares.turns import Session


class TurnsTest(unittest.TestCase):
    def test_two_players_with_two_weights(self):
        # 1 has a share of 100 a turn, 2 of 300.
        calls = [join(1), join(2, 3)] + [job(1, 0, 100)] * 3 + [job(2, 0, 150)] * 4
        answered = ask(*calls, tick(), players())
        self.assertEqual(done(answered[-2]), [(1, 1), (4, 2), (5, 2), (2, 1), (6, 2), (7, 2), (3, 1)])
        self.assertEqual(answered[-1], [0, 1, 1, 0, 0, 300, 2, 3, 0, 0, 600])

    def test_what_is_left_of_a_share_is_kept(self):
        # Shares of 200: 200 pays for 150, 250 for 150 (100 stay), 300 for 150 and 150.
        calls = [join(1, 2), join(2)] + [job(1, 0, 150)] * 4 + [job(2, 0, 100)] * 3
        self.assertEqual(order(last(*calls, tick())), [1, 5, 2, 6, 3, 4, 7])

    def test_a_share_that_just_reaches(self):
        calls = [join(1), join(2), job(1, 0, 100), job(2, 0, 100)]
        self.assertEqual(order(last(*calls, tick())), [1, 2])
        calls = [join(1), join(2), job(1, 0, 101), job(2, 0, 100)]
        self.assertEqual(order(last(*calls, tick())), [2, 1])

    def test_the_first_job_is_the_one_to_be_paid_for(self):
        calls = [join(1), join(2), job(1, 0, 100), job(1, 0, 300), job(2, 0, 200), job(2, 0, 100), tick()]
        self.assertEqual(order(last(*calls)), [1, 3, 4, 2])

    def test_three_players_over_several_ticks(self):
        # Shares of 2000, 5000, 3000; costs of 4000, 5000, 6000; 20000 a tick.
        calls = [begin(0, 20000, 1000), join(7, 2), join(4, 5), join(9, 3)]
        calls += [job(7, 1, 4000)] * 4 + [job(4, 2, 5000)] * 4 + [job(9, 3, 6000)] * 4
        answered = ask(*calls, tick(), players(), tick(), players(), tick(), players(), tick(), players())
        # 4; 7, 4, 9; the next one of 4 costs more than the nothing that is left.
        self.assertEqual(done(answered[-8]), [(5, 4), (1, 7), (6, 4), (9, 9)])
        self.assertEqual(answered[-7], [0, 7, 2, 3, 2000, 4000, 4, 5, 2, 5000, 10000, 9, 3, 3, 0, 6000])
        # 4's turn goes on without another share; 7, 4 (its last), 9; then 7 lacks the budget only once it has 4000.
        self.assertEqual(done(answered[-6]), [(7, 4), (2, 7), (8, 4), (10, 9)])
        self.assertEqual(answered[-5], [0, 7, 2, 2, 4000, 8000, 4, 5, 0, 0, 20000, 9, 3, 2, 3000, 12000])
        self.assertEqual(done(answered[-4]), [(3, 7), (11, 9), (4, 7), (12, 9)])
        self.assertEqual(answered[-3], [0, 7, 2, 0, 0, 16000, 4, 5, 0, 0, 20000, 9, 3, 0, 0, 24000])
        self.assertEqual(answered[-2:], [[0, 4], answered[-3]])

    def test_turn_stays_with_the_last_job_done_and_has_begun(self):
        calls = [join(1), join(2), job(1), tick(), job(1), job(2), tick()]
        self.assertEqual(done(last(*calls)), [(3, 2), (2, 1)])

    def test_nothing_is_hoarded(self):
        # A share of 10000 for a job of 1: what is left of it goes with the last job.
        answered = ask(join(1, 100), job(1, 0, 1), tick(), players())
        self.assertEqual(answered[-1], [0, 1, 100, 0, 0, 1])

    def test_a_player_without_jobs_is_passed_over(self):
        calls = [join(1), join(2), join(3), job(3), job(2), job(2), tick(), players()]
        answered = ask(*calls)
        self.assertEqual(done(answered[-2]), [(2, 2), (1, 3), (3, 2)])
        self.assertEqual(answered[-1], [0, 1, 1, 0, 0, 0, 2, 1, 0, 0, 200, 3, 1, 0, 0, 100])

    def test_shares_by_weight_with_jobs_always_waiting(self):
        calls = [begin(0, 20000, 100), join(1, 1), join(2, 2), join(3, 5)]
        calls += [job(number, 0, 2000) for number in (1, 2, 3)] * 12
        row = last(*calls, tick(), players())
        per_weight = [row[5] // row[2], row[10] // row[7], row[15] // row[12]]
        # Of each nothing is behind by more than one job's cost and one share.
        self.assertLessEqual(max(per_weight) - min(per_weight), 2100)
        self.assertEqual(row[5] + row[10] + row[15], 20000)


class BudgetTest(unittest.TestCase):
    def test_budget_that_just_reaches(self):
        calls = [begin(0, 20000, 10000), join(1, 100), job(1, 0, 10000), job(1, 0, 9999), job(1, 0, 1), job(1, 0, 1)]
        answered = ask(*calls, tick(), players(), tick())
        self.assertEqual(order(answered[-3]), [1, 2, 3])
        self.assertEqual(answered[-2], [0, 1, 100, 1, 980000, 20000])
        self.assertEqual(order(answered[-1]), [4])

    def test_budget_that_is_short_by_one(self):
        # What costs less and would fit is another's: the tick is over all the same.
        calls = [begin(0, 20000, 10000), join(1, 100), join(2), job(1, 0, 10000), job(1, 0, 9999), job(1, 0, 2),
                 job(1, 0, 1), job(2, 0, 1)]
        answered = ask(*calls, tick(), tick())
        self.assertEqual(done(answered[-2]), [(1, 1), (2, 1)])
        self.assertEqual(done(answered[-1]), [(3, 1), (4, 1), (5, 2)])

    def test_turn_stays_and_has_begun_at_the_next_tick(self):
        calls = [begin(0, 20000, 10000), join(1), join(2, 100), job(1, 0, 1)] + [job(2, 0, 10000)] * 6
        calls += [job(1, 0, 1)]
        answered = ask(*calls, tick(), players(), tick(), players(), tick(), players())
        # 1 has a share of 10000 left from its turn; 2 gets one share of 1000000 for all three ticks.
        self.assertEqual(order(answered[-6]), [1, 8, 2])
        self.assertEqual(answered[-5], [0, 1, 1, 0, 0, 2, 2, 100, 5, 990000, 10000])
        self.assertEqual(order(answered[-4]), [3, 4])
        self.assertEqual(answered[-3], [0, 1, 1, 0, 0, 2, 2, 100, 3, 970000, 30000])
        self.assertEqual(order(answered[-2]), [5, 6])
        self.assertEqual(answered[-1], [0, 1, 1, 0, 0, 2, 2, 100, 1, 950000, 50000])

    def test_budget_is_new_at_each_tick_and_not_kept(self):
        calls = [begin(0, 20000, 10000), join(1, 100), tick(3)] + [job(1, 0, 10000)] * 5
        self.assertEqual([len(drawn(row)) for row in ask(*calls, tick(), tick(), tick(), tick())[-4:]], [2, 2, 1, 0])


class WithoutJobsTest(unittest.TestCase):
    def test_without_players(self):
        self.assertEqual(ask(tick(), tick(20), players()), [[0, 1], [0, 21], [0]])

    def test_without_jobs(self):
        answered = ask(join(1), join(2), tick(), players(), job(2), job(1), tick())
        self.assertEqual(answered[2:4], [[0, 1], [0, 1, 1, 0, 0, 0, 2, 1, 0, 0, 0]])
        # The turn was not passed on: it's 1's still.
        self.assertEqual(done(answered[-1]), [(2, 1), (1, 2)])

    def test_turn_before_anybody_joined_is_the_first_one_s(self):
        self.assertEqual(done(last(tick(3), join(5), join(6), job(6), job(5), tick())), [(2, 5), (1, 6)])


class CountTest(unittest.TestCase):
    def test_k_of_1_and_20(self):
        self.assertEqual(ask(tick(1)), [[0, 1]])
        self.assertEqual(ask(tick(20)), [[0, 20]])
        self.assertEqual(ask(tick(20), tick(1), tick(20)), [[0, 20], [0, 21], [0, 41]])

    def test_just_outside(self):
        before = [join(1), job(1, 4, 100, 99)]
        for k in (0, 21, -1, FAR, -FAR):
            answered = ask(*before, tick(k), players(), queue(1), tick())[len(before):]
            self.assertEqual(answered[0], [-1])
            self.assertEqual(answered[1:3], [[0, 1, 1, 1, 0, 0], [0, 1, 4, 100, 99]])
            self.assertEqual(answered[3], [0, 1, 1, 1, helper.draw(0, 1, 4, 0, 99)])

    def test_k_ticks_are_as_k_times_one(self):
        calls = [begin(6, 20000, 500), join(1, 2), join(2, 3), join(3, 1)]
        calls += [job(1 + count % 3, count % 4, 9000 - 100 * count, 1000) for count in range(60)]
        once = ask(*calls, tick(20), players(), queue(1), queue(2), queue(3))
        parts = ask(*calls, *[tick(1)] * 20, players(), queue(1), queue(2), queue(3))
        self.assertEqual(once[-4:], parts[-4:])
        joined = [number for row in parts[len(calls):-4] for number in row[2:]]
        self.assertEqual(once[-5], [0, 20] + joined)
        self.assertGreater(len(done(once[-5])), 40)

    def at_tick(self, number):
        session = Session()
        session.tick = number
        answer(session, 1, [1, 1])
        answer(session, 3, [1, 8, 100, 77])
        return session

    def test_last_tick(self):
        # No list of calls is long enough to come there.
        session = self.at_tick(999999980)
        drew = helper.draw(0, 999999981, 8, 0, 77)
        self.assertEqual(answer(session, 5, [20]), [0, 1000000000, 1, 1, drew])
        self.assertEqual(answer(session, 5, [1]), [-5])

    def test_above_the_last_tick(self):
        session = self.at_tick(999999981)
        self.assertEqual(answer(session, 5, [20]), [-5])
        self.assertEqual(answer(session, 6, [1]), [0, 1, 8, 100, 77])
        self.assertEqual(answer(session, 7, []), [0, 1, 1, 1, 0, 0])
        self.assertEqual(answer(session, 5, [21]), [-1])
        self.assertEqual(answer(session, 5, [19]), [0, 1000000000, 1, 1, helper.draw(0, 999999982, 8, 0, 77)])


class DrawnTest(unittest.TestCase):
    def test_drawn_by_tick_thing_and_count(self):
        for seed in (0, 1, 123456789, FAR):
            calls = [begin(seed), join(1), join(2), job(1, 5, 100, 1000), job(1, 5, 100, 1000), job(2, 5, 100, 1000),
                     job(2, 6, 100, 7), job(1, 1000000, 100, 1000000000), tick()]
            # In order: 1's first, 2's first, 1's second, 2's second, 1's third.
            counts = [(5, 0, 1000), (5, 1, 1000), (5, 2, 1000), (6, 0, 7), (1000000, 0, 1000000000)]
            answered = ask(*calls, job(1, 5, 100, 1000), job(1, 5, 100, 1000), tick())
            self.assertEqual(order(answered[-4]), [1, 3, 2, 4, 5])
            self.assertEqual(drawn(answered[-4]), [helper.draw(seed, 1, *row) for row in counts])
            self.assertEqual(drawn(answered[-1]), [helper.draw(seed, 2, 5, count, 1000) for count in (0, 1)])

    def test_counts_begin_anew_in_each_of_k_ticks(self):
        calls = [begin(42, 20000, 10000), join(1, 100)] + [job(1, 3, 10000, 1000)] * 5
        numbers = [(1, 0), (1, 1), (2, 0), (2, 1), (3, 0)]
        self.assertEqual(drawn(last(*calls, tick(20))), [helper.draw(42, at, 3, count, 1000) for at, count in numbers])

    def test_the_tick_without_jobs_counts(self):
        self.assertEqual(drawn(last(join(1), tick(7), job(1, 2, 100, 5000), tick())), [helper.draw(0, 8, 2, 0, 5000)])

    def test_known_draws(self):
        # Worked out once by the document's words.
        calls = [join(1), job(1, 0, 1, 1000), job(1, 0, 1, 1000), job(1, 1, 1, 1000), tick()]
        self.assertEqual(drawn(last(*calls)), [785, 59, 216])
        self.assertEqual(drawn(last(begin(99), *calls)), [722, 91, 942])

    def test_no_other_thing_matters(self):
        mine = [job(1, 50, 10, 1000000), job(1, 51, 10, 1000000), job(1, 50, 10, 1000000)]
        others = [job(2, 60, 3, 9), job(2, 61, 3, 9), job(2, 62, 3, 9)]
        alone = last(begin(5), join(1), join(2), *mine, tick())
        for calls in (others + mine, mine + others, [mine[0], others[0], mine[1], others[1], mine[2]]):
            row = last(begin(5), join(2, 9), join(1), *calls, tick())
            drew = [number for (gone, player), number in zip(done(row), drawn(row)) if player == 1]
            self.assertEqual(drew, drawn(alone))

    def test_refused_calls_draw_nothing(self):
        calls = [join(1), job(1, 4, 100, 9999), job(1, 4, 100, 0), tick(0), job(2, 4, 100, 9), tick()]
        self.assertEqual(drawn(last(*calls)), [helper.draw(0, 1, 4, 0, 9999)])


if __name__ == "__main__":
    unittest.main()
