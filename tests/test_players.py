import unittest

from tests.helper import FAR, ask, begin, done, job, join, last, leave, order, players, queue, tick

EIGHT = [join(number, number) for number in range(1, 9)]


class JoinTest(unittest.TestCase):
    def test_answers_how_many_there_are(self):
        self.assertEqual(ask(*EIGHT), [[0, count] for count in range(1, 9)])

    def test_new_player_is_the_last_and_has_nothing(self):
        answered = last(join(30, 5), join(10, 100), join(20, 1), players())
        self.assertEqual(answered, [0, 30, 5, 0, 0, 0, 10, 100, 0, 0, 0, 20, 1, 0, 0, 0])

    def test_edges_taken(self):
        self.assertEqual(ask(join(1), join(999), join(5, 1), join(6, 100)), [[0, 1], [0, 2], [0, 3], [0, 4]])

    def test_just_outside(self):
        for call in (join(0), join(1000), join(-1), join(1, 0), join(1, 101), join(1, -1), join(FAR), join(-FAR),
                     join(1, FAR), join(1, -FAR)):
            self.assertEqual(ask(call, players()), [[-1], [0]])

    def test_there_already(self):
        self.assertEqual(ask(join(4, 2), join(4, 3), players()), [[0, 1], [-3], [0, 4, 2, 0, 0, 0]])

    def test_no_place_for_a_ninth(self):
        full = ask(*EIGHT, players())[-1]
        self.assertEqual(ask(*EIGHT, join(9), players())[-2:], [[-5], full])
        self.assertEqual(ask(*EIGHT, leave(3), join(9))[-1], [0, 8])

    def test_the_refusal_nearest_to_0(self):
        self.assertEqual(last(join(4), join(4, 101)), [-1])
        self.assertEqual(last(*EIGHT, join(9, 0)), [-1])
        self.assertEqual(last(*EIGHT, join(1000)), [-1])
        self.assertEqual(last(*EIGHT, join(4, 0)), [-1])
        self.assertEqual(last(*EIGHT, join(4)), [-3])

    def test_refused_join_changes_nothing(self):
        before = EIGHT[:7] + [job(3, 1, 500), job(1, 2, 50), tick(), job(3), job(2)]
        after = [players(), queue(3), queue(2), join(8), tick(2), players()]
        plain = ask(*before, *after)[len(before):]
        for refused, number in ((join(1000), -1), (join(9, 0), -1), (join(3), -3)):
            self.assertEqual(ask(*before, refused, *after)[len(before):], [[number]] + plain)


class LeaveTest(unittest.TestCase):
    def turn_with_two(self):
        """Players 1, 2, 3; the turn is that of 2 and has begun, as 2 had the last job done."""
        return [join(1), join(2), join(3), job(2), tick()]

    def jobs_done(self, before, numbers):
        """Who had a job done, in order, if each of these has one job that one share pays for."""
        return [player for number, player in done(last(*before, *[job(number) for number in numbers], tick()))]

    def test_answers_how_many_jobs_went(self):
        answered = ask(join(1), join(2), job(1), job(2), job(1), job(1), leave(1), leave(2), players())
        self.assertEqual(answered[-3:], [[0, 3], [0, 1], [0]])

    def test_nobody_of_that_number(self):
        for number in (2, 0, -1, 1000, FAR, -FAR):
            self.assertEqual(ask(join(1), leave(number), players())[1:], [[-2], [0, 1, 1, 0, 0, 0]])
        self.assertEqual(ask(leave(1)), [[-2]])
        self.assertEqual(ask(join(1), leave(1), leave(1), queue(1))[1:], [[0, 0], [-2], [-2]])

    def test_jobs_of_the_player_are_gone(self):
        answered = ask(join(1), join(2), job(1), job(2), leave(1), join(1), queue(1), tick(), players())
        self.assertEqual(answered[6], [0])
        self.assertEqual(done(answered[7]), [(2, 2)])
        self.assertEqual(answered[8], [0, 2, 1, 0, 0, 100, 1, 1, 0, 0, 0])

    def test_who_comes_back_begins_anew(self):
        before = [join(1, 3), join(2), job(1, 0, 300), job(1, 0, 10000), tick(), job(1, 0, 301), leave(1)]
        self.assertEqual(last(*before, join(1, 2), players())[6:], [1, 2, 0, 0, 0])

    def test_turn_before_anybody_leaves(self):
        # 2's turn has begun with nothing saved up, so it passes at once.
        self.assertEqual(self.jobs_done(self.turn_with_two(), (1, 2, 3)), [3, 1, 2])

    def test_player_ahead_of_the_turn(self):
        self.assertEqual(self.jobs_done(self.turn_with_two() + [leave(1)], (2, 3)), [3, 2])
        # 2 passes on to 3 still, not to whom has come to the place that was 3's.
        self.assertEqual(self.jobs_done(self.turn_with_two() + [leave(1), join(4)], (2, 3, 4)), [3, 4, 2])

    def test_player_behind_the_turn(self):
        self.assertEqual(self.jobs_done(self.turn_with_two() + [leave(3)], (1, 2)), [1, 2])
        self.assertEqual(self.jobs_done(self.turn_with_two() + [leave(3), join(4)], (1, 2, 4)), [4, 1, 2])

    def test_player_at_the_turn(self):
        # It's 3's turn then, which hasn't begun: 3 saves up and is first.
        self.assertEqual(self.jobs_done(self.turn_with_two() + [leave(2)], (1, 3)), [3, 1])

    def test_first_player_at_the_turn(self):
        before = [join(1), join(2), join(3), job(1), tick(), leave(1)]
        self.assertEqual(self.jobs_done(before, (3, 2)), [2, 3])

    def test_last_in_order_at_the_turn(self):
        before = [join(1), join(2), join(3), job(3), tick(), leave(3)]
        self.assertEqual(self.jobs_done(before, (1, 2)), [1, 2])
        # It's the first one's, not that of whoever joins behind.
        self.assertEqual(self.jobs_done(before + [join(4)], (4, 2, 1)), [1, 2, 4])

    def test_the_only_one(self):
        before = [join(1), job(1), tick(), leave(1)]
        self.assertEqual(ask(*before, players(), tick())[-2:], [[0], [0, 2]])
        # Were the turn begun still, 5 would be passed over.
        self.assertEqual(self.jobs_done(before + [join(5), join(6)], (6, 5)), [5, 6])

    def test_turn_that_has_begun_stays_begun(self):
        # The budget ends the tick in the midst of 2's turn, with 1000000 less 20000 saved up.
        before = [begin(0, 20000, 10000), join(1), join(2, 100), join(3), job(2, 0, 10000), job(2, 0, 10000),
                  job(2, 0, 10000), job(2, 0, 10000), tick()]
        for gone in (1, 3):
            answered = ask(*before, leave(gone), job(2, 0, 1), tick(), players())
            self.assertEqual(order(answered[-2]), [3, 4])
            mine = answered[-1][1:].index(2) + 1
            self.assertEqual(answered[-1][mine:mine + 5], [2, 100, 1, 960000, 40000])

    def test_the_next_one_does_not_inherit_a_turn(self):
        before = [begin(0, 20000, 10000), join(1, 100), join(2, 1), job(1, 0, 10000), job(1, 0, 10000),
                  job(1, 0, 10000), tick(), leave(1), job(2, 0, 1), job(2, 0, 10000), job(2, 0, 10000)]
        # Three shares of 10000: the first pays for 1, the second for 10000, the third finds 9999 left of the budget.
        self.assertEqual(last(*before, tick(), players()), [0, 2, 1, 1, 3 * 10000 - 10001, 10001])

    def test_refused_leave_changes_nothing(self):
        before = [join(1, 2), join(2, 3), job(1, 1, 600), job(2, 1, 10000), job(2, 1, 10000), job(1, 2, 7000),
                  tick(), job(2, 9, 9, 9)]
        after = [players(), queue(1), queue(2), job(1, 1, 1, 50), tick(2), players()]
        plain = ask(*before, *after)[len(before):]
        self.assertEqual(ask(*before, leave(3), *after)[len(before):], [[-2]] + plain)


class PlayersTest(unittest.TestCase):
    def test_nobody(self):
        self.assertEqual(ask(players()), [[0]])

    def test_all_five_numbers(self):
        answered = last(join(7, 3), join(2, 1), job(7, 0, 250), job(7, 0, 10000), job(7, 0, 10000), job(2, 0, 100),
                        tick(), players())
        # Shares of 300: 1 for the first job, 34 more for the second, 33 more till the third finds no budget left.
        self.assertEqual(answered, [0, 7, 3, 1, 68 * 300 - 10250, 10250, 2, 1, 0, 0, 100])


if __name__ == "__main__":
    unittest.main()
