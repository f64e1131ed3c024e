import unittest

from tests.helper import FAR, ask, begin, done, drop, job, join, last, leave, order, players, queue, tick

FULL = [join(1), join(2)] + [job(1 + count % 2, count, 1 + count, 2) for count in range(64)]
STATE = [players(), queue(1), queue(2)]


class JobTest(unittest.TestCase):
    def test_numbers_go_on(self):
        answered = ask(join(1), join(2), job(1), job(2), job(1), job(2))
        self.assertEqual(answered[2:], [[0, 1], [0, 2], [0, 3], [0, 4]])

    def test_numbers_go_on_behind_drop_leave_and_tick(self):
        answered = ask(join(1), join(2), job(1), job(2), drop(2), job(2), leave(2), job(1), tick(), job(1))
        self.assertEqual([answered[place] for place in (2, 3, 5, 7, 9)], [[0, 1], [0, 2], [0, 3], [0, 4], [0, 5]])

    def test_a_job_more_is_the_last_one(self):
        answered = ask(join(1), join(2), job(1, 7, 20, 3), job(2, 8, 30, 4), job(1, 9, 10, 5), *STATE)
        self.assertEqual(answered[-3], [0, 1, 1, 2, 0, 0, 2, 1, 1, 0, 0])
        self.assertEqual(answered[-2], [0, 1, 7, 20, 3, 3, 9, 10, 5])
        self.assertEqual(answered[-1], [0, 2, 8, 30, 4])

    def test_edges_taken(self):
        edges = [job(1, 0), job(1, 1000000), job(1, 0, 1), job(1, 0, 10000), job(1, 0, 1, 1), job(1, 0, 1, 1000000000)]
        answered = ask(join(1), *edges, queue(1))
        self.assertEqual(answered[1:7], [[0, number] for number in range(1, 7)])
        self.assertEqual(answered[7], [0, 1, 0, 100, 6, 2, 1000000, 100, 6, 3, 0, 1, 6, 4, 0, 10000, 6, 5, 0, 1, 1,
                                       6, 0, 1, 1000000000])

    def test_just_outside(self):
        for call in (job(1, -1), job(1, 1000001), job(1, 0, 0), job(1, 0, 10001), job(1, 0, 1, 0),
                     job(1, 0, 1, 1000000001), job(1, FAR), job(1, -FAR), job(1, 0, FAR), job(1, 0, -FAR),
                     job(1, 0, 1, FAR), job(1, 0, 1, -FAR)):
            self.assertEqual(ask(join(1), call, queue(1), job(1))[1:], [[-1], [0], [0, 1]])

    def test_nobody_of_that_number(self):
        # Of the player no number is out of its range: nobody is there.
        for number in (2, 0, 999, 1000, -1, FAR, -FAR):
            self.assertEqual(ask(join(1), job(number), players())[1:], [[-2], [0, 1, 1, 0, 0, 0]])

    def test_64_jobs_in_all(self):
        answered = ask(*FULL, job(1), job(2), *STATE)
        self.assertEqual(answered[2:66], [[0, number] for number in range(1, 65)])
        self.assertEqual(answered[66:68], [[-5], [-5]])
        self.assertEqual(answered[68:], ask(*FULL, *STATE)[66:])

    def test_place_again(self):
        self.assertEqual(ask(*FULL, job(1), drop(7), job(1), job(2))[-3:], [[0], [0, 65], [-5]])
        self.assertEqual(ask(*FULL, leave(2), job(1))[-2:], [[0, 32], [0, 65]])
        self.assertEqual(ask(*FULL, tick(), job(1))[-1], [0, 65])

    def test_the_refusal_nearest_to_0(self):
        self.assertEqual(last(join(1), job(2, -1)), [-1])
        self.assertEqual(last(join(1), job(FAR, 0, 10001)), [-1])
        self.assertEqual(last(*FULL, job(1, 0, 0)), [-1])
        self.assertEqual(last(*FULL, job(3, 0, 1, 0)), [-1])
        self.assertEqual(last(*FULL, job(3)), [-2])

    def test_refused_job_changes_nothing(self):
        for before in ([join(1), join(2), job(1, 5, 300), job(2, 5, 200)], FULL):
            after = STATE + [drop(1), job(1), tick(2), *STATE]
            plain = ask(*before, *after)[len(before):]
            for refused, number in ((job(1, -1), -1), (job(2, 0, 0), -1), (job(1, 0, 1, 0), -1), (job(3), -2)):
                self.assertEqual(ask(*before, refused, *after)[len(before):], [[number]] + plain)


class DropTest(unittest.TestCase):
    def test_one_of_several(self):
        before = [join(1), join(2), job(1, 1), job(2, 2), job(1, 3), job(1, 4)]
        for number, left in ((1, [3, 4]), (3, [1, 4]), (4, [1, 3])):
            answered = ask(*before, drop(number), queue(1), queue(2))
            self.assertEqual(answered[-3], [0])
            self.assertEqual(answered[-2][1::4], left)
            self.assertEqual(answered[-1], [0, 2, 2, 100, 6])

    def test_not_there(self):
        before = [join(1), join(2), job(1), job(2), job(1), drop(3), tick(), job(2, 0, 10000)]
        for number in (0, -1, 1, 2, 3, 5, FAR, -FAR):
            self.assertEqual(ask(*before, drop(number), *STATE)[len(before):],
                             [[-2]] + ask(*before, *STATE)[len(before):])
        self.assertEqual(ask(*before, drop(4), drop(4))[-2:], [[0], [-2]])
        self.assertEqual(ask(drop(1)), [[-2]])

    def test_jobs_of_who_left(self):
        self.assertEqual(ask(join(1), job(1), leave(1), drop(1))[-1], [-2])

    def test_dropped_job_is_not_done(self):
        self.assertEqual(order(last(join(1), job(1), job(1), job(1), drop(2), tick())), [1, 3])

    def saved_up(self, weight=100):
        """Of player 1 three jobs wait and 980000 is saved up; the turn is theirs and has begun."""
        return [begin(0, 20000, 10000), join(1, weight)] + [job(1, 0, 10000)] * 5 + [tick()]

    def test_saved_up_stays_while_a_job_waits(self):
        self.assertEqual(last(*self.saved_up(), drop(3), drop(5), players()), [0, 1, 100, 1, 980000, 20000])

    def test_nothing_is_saved_up_behind_the_last_one(self):
        before = self.saved_up() + [drop(4), drop(3), drop(5)]
        self.assertEqual(last(*before, players()), [0, 1, 100, 0, 0, 20000])
        # The turn has begun still: it passes first, and the next turn's share is all there is.
        answered = ask(*before, join(2), job(1, 0, 1), job(1, 0, 10000), job(1, 0, 10000), job(2, 0, 1), tick(),
                       players())
        self.assertEqual(done(answered[-2]), [(9, 2), (6, 1), (7, 1)])
        self.assertEqual(answered[-1][1:6], [1, 100, 1, 1000000 - 10001, 30001])

    def test_others_keep_what_they_saved(self):
        before = self.saved_up() + [join(2), job(2), drop(6)]
        self.assertEqual(last(*before, players()), [0, 1, 100, 3, 980000, 20000, 2, 1, 0, 0, 0])


class QueueTest(unittest.TestCase):
    def test_nothing_waits(self):
        self.assertEqual(last(join(1), queue(1)), [0])

    def test_in_order_and_after_a_tick(self):
        before = [begin(0, 20000, 10000), join(3), job(3, 11, 10000, 2), job(3, 12, 9000, 3), job(3, 13, 8000, 4)]
        self.assertEqual(last(*before, queue(3)), [0, 1, 11, 10000, 2, 2, 12, 9000, 3, 3, 13, 8000, 4])
        self.assertEqual(last(*before, tick(), queue(3)), [0, 3, 13, 8000, 4])

    def test_nobody_of_that_number(self):
        for number in (2, 0, -1, 1000, FAR, -FAR):
            self.assertEqual(last(join(1), job(1), queue(number)), [-2])

    def test_asking_changes_nothing(self):
        before = [join(1, 3), join(2), job(1, 0, 700), job(2), job(1, 0, 10000), job(2, 0, 10000), tick(), job(1)]
        after = [tick(2), *STATE]
        asked = ask(*before, *STATE, queue(5), *STATE, *after)
        self.assertEqual(asked[-4:], ask(*before, *after)[-4:])


if __name__ == "__main__":
    unittest.main()
