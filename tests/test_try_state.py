"""What ticks would do, and what there is."""

import unittest

from tests import helper
from tests.helper import (FAR, ask, assert_refused, begin, draw_of, drop, done, job, join, last, leave, order, players,
                          queue, state, tick, try_out, weigh)
from turnshares.calls import answer
from turnshares.turns import Session

SEEN = [state(), players(), queue(1), queue(2), queue(3)]
THREE = [begin(6, 20000, 500), join(1, 2), join(2, 3), join(3, 1)]
MANY = THREE + [job(1 + count % 3, count % 4, 9000 - 100 * count, 1000) for count in range(60)]
LISTS = (
    [state()],
    [join(1)],
    [join(1), join(2), join(3), job(2, 5, 100, 9)],
    MANY,
    MANY + [tick(3)],
    MANY + [tick(7), weigh(2, 50), leave(1)],
    MANY + [tick(2), leave(2), job(3, 7, 7, 7), drop(1)],
    [begin(3, 1000000, 10000), join(1, 100)] + [job(1, 1, 10000, 1000)] * 64,
    [begin(3, 20000, 10000), join(1, 100), join(2)] + [job(1, 1, 10000, 1000)] * 63 + [job(2, 1, 1, 9), tick(5)],
)


class TryTest(unittest.TestCase):
    def test_jobs_and_draws_are_those_of_the_next_tick(self):
        for before in LISTS:
            for k in (1, 2, 5, 19, 20):
                tried, ticked = ask(*before, try_out(k), tick(k))[-2:]
                self.assertEqual(tried[0], 0)
                self.assertEqual(tried[1:], ticked[2:])
                self.assertEqual(ticked, last(*before, tick(k)))

    def test_nothing_changes(self):
        for before in LISTS:
            for k in (1, 20):
                asked = ask(*before, *SEEN, try_out(k), *SEEN, try_out(k), try_out(k), *SEEN)[len(before):]
                self.assertEqual(asked[:5], asked[6:11])
                self.assertEqual(asked[:5], asked[13:])
                self.assertEqual(asked[5], asked[11])
                self.assertEqual(asked[5], asked[12])

    def test_what_is_there_later_is_as_without_it(self):
        for before in LISTS:
            after = [job(1, 4, 5, 100), tick(4), *SEEN, leave(1), join(4), join(1), weigh(1, 3), tick(2), *SEEN]
            plain = ask(*before, *after)[len(before):]
            self.assertEqual(ask(*before, try_out(20), *after)[len(before) + 1:], plain)

    def test_told_one_by_one(self):
        calls = [begin(42, 20000, 10000), join(1, 100)] + [job(1, 3, 10000, 1000)] * 5
        drew = [helper.draw(42, at, 3, count, 1000) for at, count in ((1, 0), (1, 1), (2, 0), (2, 1), (3, 0))]
        self.assertEqual(last(*calls, try_out(1)), [0, 1, 1, drew[0], 2, 1, drew[1]])
        self.assertEqual(last(*calls, try_out(2)), [0, 1, 1, drew[0], 2, 1, drew[1], 3, 1, drew[2], 4, 1, drew[3]])
        self.assertEqual(last(*calls, try_out(20)), [0, 1, 1, drew[0], 2, 1, drew[1], 3, 1, drew[2], 4, 1, drew[3],
                                                     5, 1, drew[4]])

    def test_with_nothing_to_do(self):
        self.assertEqual(ask(try_out(1), try_out(20), join(1), try_out(20)), [[0], [0], [0, 1], [0]])

    def test_each_try_begins_from_here(self):
        calls = [begin(1, 20000, 10000), join(1, 100)] + [job(1, 3, 10000, 1000)] * 6
        answered = ask(*calls, try_out(1), tick(1), try_out(1), tick(1), try_out(1))
        self.assertEqual([answered[place][1::3] for place in (-5, -3, -1)], [[1, 2], [3, 4], [5, 6]])

    def test_just_outside(self):
        for before in LISTS:
            for k in (0, 21, -1, FAR, -FAR):
                assert_refused(self, before, try_out(k), -1)

    def test_near_the_last_tick(self):
        # -5 isn't among what try refuses; no list of calls is long enough to come there.
        session = Session()
        session.tick = 1000000000
        answer(session, 1, [1, 1])
        answer(session, 3, [1, 8, 100, 77])
        self.assertEqual(answer(session, 14, [20]), [0, 1, 1, helper.draw(0, 1000000001, 8, 0, 77)])
        self.assertEqual(answer(session, 5, [1]), [-5])
        self.assertEqual(answer(session, 15, []), [0, 1000000000, 20000, 100, 1, 0, 0, 0, 2])


class StateTest(unittest.TestCase):
    def test_at_the_beginning(self):
        self.assertEqual(ask(state()), [[0, 0, 20000, 100, 0, 0, 0, 0, 1]])

    def test_with_players_and_jobs(self):
        answered = ask(join(5), state(), join(6), job(6), job(5), state(), drop(2), state())
        self.assertEqual(answered[1], [0, 0, 20000, 100, 1, 0, 0, 0, 1])
        self.assertEqual(answered[5], [0, 0, 20000, 100, 2, 0, 0, 0, 3])
        self.assertEqual(answered[7], [0, 0, 20000, 100, 2, 0, 0, 0, 3])

    def test_behind_a_tick(self):
        # 3's job is the last one done: the turn stays theirs, and has begun.
        calls = [join(1), join(2), join(3), job(1, 0, 30), job(3, 0, 70), tick()]
        self.assertEqual(last(*calls, state()), [0, 1, 20000, 100, 3, 2, 1, 100, 3])
        self.assertEqual(last(*calls, tick(19), state()), [0, 20, 20000, 100, 3, 2, 1, 0, 3])

    def test_behind_a_tick_that_the_budget_ended(self):
        calls = [begin(7, 25000, 10000), join(1), join(2, 100)] + [job(2, 0, 9000)] * 4
        answered = ask(*calls, *[tick(), state()] * 3)
        self.assertEqual(answered[-5], [0, 1, 25000, 10000, 2, 1, 1, 18000, 5])
        self.assertEqual(answered[-3], [0, 2, 25000, 10000, 2, 1, 1, 18000, 5])
        self.assertEqual(answered[-1], [0, 3, 25000, 10000, 2, 1, 1, 0, 5])

    def test_spent_in_the_last_of_several_ticks(self):
        calls = [begin(7, 25000, 10000), join(1, 100)] + [job(1, 0, 9000)] * 3
        self.assertEqual(last(*calls, tick(1), state())[7], 18000)
        self.assertEqual(last(*calls, tick(2), state())[7], 9000)
        self.assertEqual(last(*calls, tick(3), state())[7], 0)
        self.assertEqual(last(*calls, tick(2), job(1, 0, 1), state())[7], 9000)
        self.assertEqual(last(*calls, tick(2), drop(3), leave(1), state())[7], 9000)

    def test_all_of_the_budget_spent(self):
        calls = [begin(0, 20000, 10000), join(1, 100), job(1, 0, 10000), job(1, 0, 9999), job(1, 0, 1), job(1, 0, 1)]
        self.assertEqual(last(*calls, tick(), state()), [0, 1, 20000, 10000, 1, 0, 1, 20000, 5])

    def test_a_tick_without_a_job(self):
        self.assertEqual(ask(tick(), state())[1], [0, 1, 20000, 100, 0, 0, 0, 0, 1])
        self.assertEqual(last(join(1), join(2), tick(20), state()), [0, 20, 20000, 100, 2, 0, 0, 0, 1])
        # The turn is not passed on by it, and what was spent before is told no more.
        calls = [join(1), join(2), job(2), tick(), state(), tick(), state()]
        answered = ask(*calls)
        self.assertEqual(answered[4], [0, 1, 20000, 100, 2, 1, 1, 100, 2])
        self.assertEqual(answered[6], [0, 2, 20000, 100, 2, 1, 1, 0, 2])

    def test_behind_a_begin(self):
        for before in LISTS:
            self.assertEqual(last(*before, begin(FAR, 1000000, 10000), state()),
                             [0, 0, 1000000, 10000, 0, 0, 0, 0, 1])
            self.assertEqual(last(*before, begin(0, 20000, 100), state()), [0, 0, 20000, 100, 0, 0, 0, 0, 1])

    def test_behind_the_leaving_of_whose_turn_it_is(self):
        for place, now in ((0, 0), (1, 1), (2, 0)):
            calls = [join(1), join(2), join(3), job(place + 1), tick()]
            self.assertEqual(last(*calls, state()), [0, 1, 20000, 100, 3, place, 1, 100, 2])
            self.assertEqual(last(*calls, leave(place + 1), state()), [0, 1, 20000, 100, 2, now, 0, 100, 2])

    def test_behind_the_leaving_of_another(self):
        calls = [join(1), join(2), join(3), job(2), tick()]
        self.assertEqual(last(*calls, leave(1), state()), [0, 1, 20000, 100, 2, 0, 1, 100, 2])
        self.assertEqual(last(*calls, leave(3), state()), [0, 1, 20000, 100, 2, 1, 1, 100, 2])
        self.assertEqual(last(*calls, leave(3), join(3), state()), [0, 1, 20000, 100, 3, 1, 1, 100, 2])
        self.assertEqual(last(*calls, leave(1), leave(3), state()), [0, 1, 20000, 100, 1, 0, 1, 100, 2])

    def test_without_players(self):
        calls = [join(1), join(2), job(2), job(2), tick(), leave(1), leave(2)]
        self.assertEqual(last(*calls, state()), [0, 1, 20000, 100, 0, 0, 0, 200, 3])
        self.assertEqual(last(*calls, join(7), state()), [0, 1, 20000, 100, 1, 0, 0, 200, 3])
        self.assertEqual(last(*calls, tick(), state()), [0, 2, 20000, 100, 0, 0, 0, 0, 3])

    def test_turn_that_passes_in_the_midst(self):
        # 1 saves up for 300, 2 and 3 have their jobs done meanwhile; the last one done is 1's.
        calls = [join(1), join(2), join(3), job(1, 0, 300), job(2), job(3), tick(), state()]
        answered = ask(*calls)
        self.assertEqual(done(answered[-2]), [(2, 2), (3, 3), (1, 1)])
        self.assertEqual(answered[-1], [0, 1, 20000, 100, 3, 0, 1, 500, 4])

    def test_asking_changes_nothing(self):
        for before in LISTS:
            asked = ask(*before, state(), state(), draw_of(), state(), tick(3), state())
            self.assertEqual(asked[-6], asked[-5])
            self.assertEqual(asked[-6], asked[-3])
            self.assertEqual(asked[-2:], ask(*before, tick(3), state())[-2:])

    def test_next_job_s_number_is_the_one_given(self):
        for before in LISTS:
            number = last(*before, state())[-1]
            self.assertEqual(last(*before, join(9), tick(20), job(9)), [0, number])
            self.assertIn(number, order(last(*before, join(9), tick(20), job(9), tick(20))))


if __name__ == "__main__":
    unittest.main()
