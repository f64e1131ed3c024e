import inspect
import unittest

from tests.helper import begin, job, join, leave, players, queue, tick
from turnshares.world import answers


def flat(*calls):
    return [number for call in calls for number in call]


BUSY = flat(begin(3, 20000, 1000), join(1, 2), join(2, 5), job(1, 5, 9000, 50), job(2, 5, 9000, 50), job(2, 6, 900, 50),
            tick(2), players(), queue(1), leave(2), tick(1), players())


class AnswersTest(unittest.TestCase):
    def test_counts_ahead_of_the_answers(self):
        calls = [1, 5, 2, 1, 5, 2, 3, 5, 9, 100, 1, 6, 5, 7, 2, 5, 4, 1, 5, 1]
        self.assertEqual(answers(calls), [2, 0, 1, 1, -3, 2, 0, 1, 5, 0, 1, 9, 100, 1, 6, 0, 5, 2, 1, 0, 0, 2, 0, 1,
                                          1, -2, 2, 0, 1])

    def test_one_call(self):
        self.assertEqual(answers([7]), [1, 0])
        self.assertEqual(answers([0, 1, 20000, 100]), [1, 0])

    def test_300_calls(self):
        self.assertEqual(answers([7] * 300), [1, 0] * 300)
        self.assertEqual(answers(flat(*[tick(20)] * 300))[-3:], [2, 0, 6000])

    def test_refused_calls_take_up_their_numbers(self):
        # The told numbers of refused calls look like calls themselves.
        self.assertEqual(answers([0, 7, 7, 7, 1, 7, 700, 2, 7, 3, 7, 7, 7, 7, 4, 7, 5, 700, 6, 7, 7]),
                         [1, -1, 1, -1, 1, -2, 1, -2, 1, -2, 1, -1, 1, -2, 1, 0])

    def test_argument_is_called_calls(self):
        self.assertEqual(list(inspect.signature(answers).parameters), ["calls"])
        self.assertEqual(answers(calls=[7]), [1, 0])

    def test_kinds(self):
        given = answers(BUSY)
        self.assertIs(type(given), list)
        self.assertEqual({type(number) for number in given}, {int})

    def test_what_is_handed_in_is_not_changed(self):
        calls = list(BUSY)
        given = answers(calls)
        self.assertEqual(calls, BUSY)
        self.assertIsNot(given, calls)

    def test_nothing_is_kept(self):
        first = answers(BUSY)
        for between in ([7], BUSY[:28], flat(begin(77, 1000000, 10000), join(1), job(1), tick(20)), [2, 1]):
            answers(between)
            self.assertEqual(answers(BUSY), first)
        # What is given back is the caller's own.
        kept = answers(BUSY)
        kept.clear()
        self.assertEqual(answers(BUSY), first)
        self.assertEqual(answers([7]), [1, 0])


if __name__ == "__main__":
    unittest.main()
