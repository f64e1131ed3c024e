"""What bound tells, and the promises of the turns: nobody waits longer, and shares go by weight."""

import random
import unittest

from tests.helper import (FAR, ask, assert_refused, begin, bound, bound_by_words, drop, job, join, last, leave, order,
                          players, tick, weigh)
from turnshares.calls import answer
from turnshares.turns import Session

BUSY = [begin(5, 20000, 1000), join(1, 2), join(2), join(3), job(1, 4, 9000), job(2, 4, 9000), job(1, 4, 9000), tick()]


class BoundTest(unittest.TestCase):
    def alone(self, budget, quantum, weight, cost):
        answered = last(begin(0, budget, quantum), join(1, weight), job(1, 0, cost), bound(1))
        self.assertEqual(answered, [0, bound_by_words(budget, quantum, weight, cost, [weight])])
        return answered[1]

    def test_worked_out_by_hand(self):
        # r is 3: 3 * 100 + 10000 + 10000 + 1 = 20301.
        self.assertEqual(self.alone(20000, 100, 1, 1), 3)
        self.assertEqual(self.alone(1000000, 100, 1, 1), 1)
        # r is 102: 102 * 100 + 10000 + 10000 + 10000 = 40200.
        self.assertEqual(self.alone(20000, 100, 1, 10000), 5)
        # r is 3: 3 * 10000 + 10000 + 1000000 + 10000 = 1050000.
        self.assertEqual(self.alone(20000, 10000, 1, 10000), 106)
        self.assertEqual(self.alone(1000000, 10000, 1, 10000), 2)
        # r is 3: 3 * 10000 * 100 + 10000 + 1000000 + 10000 = 4020000.
        self.assertEqual(self.alone(20000, 10000, 100, 10000), 403)

    def test_quotients_that_just_come_out(self):
        # r is 101 for both: 10100 + 20000 + 9900 = 40000, and 1 less.
        self.assertEqual(self.alone(20000, 100, 1, 9900), 5)
        self.assertEqual(self.alone(20000, 100, 1, 9899), 4)
        # One share of 9900 pays for the first two, the third takes two: 59599, 59600, and 4 * 9900 + 20000 + 9901.
        self.assertEqual(self.alone(20000, 100, 99, 9899), 6)
        self.assertEqual(self.alone(20000, 100, 99, 9900), 6)
        self.assertEqual(self.alone(20000, 100, 99, 9901), 7)

    def test_at_the_edges_of_all(self):
        for budget in (20000, 20001, 999999, 1000000):
            for quantum in (100, 101, 9999, 10000):
                for weight in (1, 2, 99, 100):
                    for cost in (1, 2, 100, 101, 9999, 10000):
                        self.alone(budget, quantum, weight, cost)

    def test_several_players_and_weights(self):
        weights = [1, 100, 7, 30, 2, 55, 9, 4]
        for budget, quantum in ((20000, 100), (20000, 10000), (1000000, 100), (1000000, 10000), (33333, 777)):
            for count in range(1, 9):
                calls = [begin(1, budget, quantum)] + [join(place + 1, weights[place]) for place in range(count)]
                for place in range(count):
                    for cost in (1, 10000):
                        self.assertEqual(last(*calls, job(place + 1, 0, cost), bound(place + 1)),
                                         [0, bound_by_words(budget, quantum, weights[place], cost, weights[:count])])

    def test_greatest_of_all(self):
        # r is 3: 3 * 10000 * 800 + 80000 + 1000000 + 10000 = 25090000.
        calls = [begin(0, 20000, 10000)] + [join(number, 100) for number in range(1, 9)]
        self.assertEqual(last(*calls, job(3, 0, 10000), bound(3)), [0, 2510])
        # r is 102, with one of weight 1: 102 * 100 * 701 + 80000 + 10000 + 10000 = 7250200.
        calls = [begin(0, 20000, 100), join(1)] + [join(number, 100) for number in range(2, 9)]
        self.assertEqual(last(*calls, job(1, 0, 10000), bound(1)), [0, 726])

    def test_it_is_the_first_job_s(self):
        calls = [join(1), job(1, 0, 10000), job(1, 0, 1)]
        self.assertEqual(last(*calls, bound(1)), [0, 5])
        self.assertEqual(last(*calls, drop(1), bound(1)), [0, 3])
        self.assertEqual(last(*calls, drop(2), bound(1)), [0, 5])

    def test_who_is_there_and_their_weights_now(self):
        calls = [begin(0, 20000, 10000), join(1), join(2, 100), join(3, 50), leave(3), weigh(2, 9), job(1, 0, 500)]
        self.assertEqual(last(*calls, bound(1)), [0, bound_by_words(20000, 10000, 1, 500, [1, 9])])
        self.assertEqual(last(*calls, weigh(1, 4), bound(1)), [0, bound_by_words(20000, 10000, 4, 500, [4, 9])])

    def test_what_is_saved_up_does_not_matter(self):
        calls = [begin(0, 20000, 10000), join(1, 100), join(2)] + [job(1, 0, 10000)] * 5
        self.assertEqual(last(*calls, bound(1)), last(*calls, tick(), bound(1)))

    def test_nobody_of_that_number(self):
        for number in (4, 0, 1000, -1, FAR, -FAR):
            assert_refused(self, BUSY, bound(number), -2)
        self.assertEqual(ask(bound(1)), [[-2]])
        # Nobody, and so no job of theirs either.
        self.assertEqual(last(join(1), job(1), leave(1), bound(1)), [-2])

    def test_no_job_waits(self):
        assert_refused(self, BUSY, bound(3), -4)
        self.assertEqual(last(join(1), join(2), job(2), bound(1)), [-4])
        self.assertEqual(last(join(1), job(1), drop(1), bound(1)), [-4])
        self.assertEqual(last(join(1), job(1), tick(), bound(1)), [-4])

    def test_edges_of_the_player(self):
        self.assertEqual(ask(join(1), join(999), job(1), job(999), bound(1), bound(999))[-2:], [[0, 4], [0, 4]])

    def test_asking_changes_nothing(self):
        after = [players(), tick(2), players()]
        self.assertEqual(ask(*BUSY, bound(1), bound(2), *after)[-3:], ask(*BUSY, *after)[-3:])


def fill(session, numbers, cost_of):
    """Jobs for these players in turn, until there is no place."""
    place = 0
    while answer(session, 3, [numbers[place % len(numbers)], 0, cost_of(), 1]) != [-5]:
        place += 1


class WaitTest(unittest.TestCase):
    """On the object behind the calls, as many of these waits are longer than 300 calls."""

    def wait_of(self, session, player, others, cost_of):
        """How many ticks go by until the player's first job is done, if the others have all jobs there is place for."""
        first = answer(session, 6, [player])[1]
        told = answer(session, 13, [player])[1]
        for passed in range(1, told + 1):
            fill(session, others, cost_of)
            if first in answer(session, 5, [1])[2::3]:
                return passed
        self.fail(f"not done behind {told} ticks")

    def begun_session(self, budget, quantum, weights):
        session = Session()
        answer(session, 0, [0, budget, quantum])
        for place, weight in enumerate(weights):
            answer(session, 1, [place + 1, weight])
        return session

    def test_at_the_edges(self):
        for budget, quantum in ((20000, 100), (20000, 10000), (1000000, 100), (1000000, 10000)):
            for cost in (1, 10000):
                for weights in ([1, 100], [100, 1, 1], [1] + [100] * 7, [100] * 8):
                    session = self.begun_session(budget, quantum, weights)
                    others = list(range(2, len(weights) + 1))
                    # The others are served ahead of the player, and one of their turns has begun.
                    fill(session, others, lambda: 10000)
                    answer(session, 5, [1])
                    answer(session, 3, [1, 0, cost, 1])
                    self.wait_of(session, 1, others, lambda: 10000)

    def test_with_a_weight_that_was_greater(self):
        # A share of weight 100 is saved up by one whose weight is 1 when bound is asked.
        session = self.begun_session(20000, 10000, [100, 1])
        fill(session, [1], lambda: 10000)
        answer(session, 5, [1])
        answer(session, 8, [1, 1])
        answer(session, 3, [2, 0, 10000, 1])
        self.assertEqual(answer(session, 13, [2]), [0, (3 * 10000 * 2 + 20000 + 1000000 + 10000) // 10000 + 1])
        self.assertGreater(self.wait_of(session, 2, [1], lambda: 10000), 48)

    def test_whatever_the_others_have(self):
        chance = random.Random(7)
        for passed in range(60):
            weights = [chance.choice((1, 2, 10, 100)) for place in range(chance.randint(2, 8))]
            budget, quantum = chance.choice((20000, 25000, 100000)), chance.choice((100, 500, 10000))
            session = self.begun_session(budget, quantum, weights)
            numbers = list(range(1, len(weights) + 1))
            fill(session, numbers, lambda: chance.choice((1, 500, 9999, 10000)))
            answer(session, 5, [chance.randint(1, 20)])
            player = chance.choice(numbers)
            answer(session, 3, [player, 0, 10000, 1])
            for number in numbers:
                answer(session, 8, [number, chance.randint(1, 100)])
            others = [number for number in numbers if number != player]
            if answer(session, 13, [player])[0] == 0:
                self.wait_of(session, player, others, lambda: chance.choice((1, 500, 9999, 10000)))

    def test_by_calls_alone(self):
        calls = [join(1, 10), join(2, 10), join(3)] + [job(1, 0, 10000), job(2, 0, 10000)] * 20
        calls += [tick(), job(3, 0, 10000), bound(3)]
        told = last(*calls)[1]
        self.assertEqual(told, (102 * 100 * 21 + 30000 + 10000 + 10000) // 10000 + 1)
        more = [job(1, 0, 10000), job(2, 0, 10000), tick()]
        rows = ask(*calls, *more * told)[len(calls) + 2::3]
        self.assertEqual([41 in order(row) for row in rows].count(True), 1)


class SharesTest(unittest.TestCase):
    def check(self, row, quantum):
        """By weight, done differs by no more than one share and one job's cost, of whichever of two that is greater."""
        people = [row[place:place + 5] for place in range(1, len(row), 5)]
        for mine in people:
            self.assertGreater(mine[2], 0)
            for other in people:
                apart = abs(mine[4] * other[1] - other[4] * mine[1])
                self.assertLessEqual(apart, mine[1] * other[1] * quantum + 10000 * max(mine[1], other[1]))

    def test_done_differs_by_no_more_than_a_told_amount(self):
        chance = random.Random(11)
        for passed in range(30):
            quantum = chance.choice((100, 700, 10000))
            session = Session()
            answer(session, 0, [passed, chance.choice((20000, 23456, 50000)), quantum])
            count = chance.randint(2, 5)
            for number in range(1, count + 1):
                answer(session, 1, [number, chance.choice((1, 2, 3, 10))])
            for tick_number in range(40):
                # To each as many jobs as can be done in one tick, so that some of theirs always wait.
                for number in range(1, count + 1):
                    for place in range(12 - len(answer(session, 6, [number])) // 4):
                        answer(session, 3, [number, 0, chance.choice((9000, 10000)), 1])
                answer(session, 5, [1])
                self.check(answer(session, 7, []), quantum)

    def test_by_calls_alone(self):
        calls = [begin(0, 20000, 1000), join(1, 1), join(2, 2), join(3, 5)]
        calls += [job(number, 0, 1000 * number + 500) for number in (1, 2, 3)] * 20
        answered = ask(*calls, *[tick(), players()] * 4)
        for row in answered[len(calls) + 1::2]:
            self.check(row, 1000)


if __name__ == "__main__":
    unittest.main()
