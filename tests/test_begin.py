import unittest

from tests import helper
from tests.helper import FAR, ask, begin, drawn, job, join, last, players, queue, tick


class BeginTest(unittest.TestCase):
    def test_edges_taken(self):
        for call in (begin(0), begin(FAR), begin(0, 20000), begin(0, 1000000), begin(0, 20000, 100),
                     begin(0, 20000, 10000), begin(FAR, 1000000, 10000)):
            self.assertEqual(ask(call), [[0]])

    def test_just_outside(self):
        for call in (begin(-1), begin(FAR + 1), begin(0, 19999), begin(0, 1000001), begin(0, 20000, 99),
                     begin(0, 20000, 10001), begin(-FAR), begin(0, -FAR), begin(0, FAR), begin(0, 20000, -FAR),
                     begin(0, 20000, FAR), begin(-1, 19999, 99)):
            self.assertEqual(ask(call), [[-1]])

    def test_line_begins_with_the_told_values(self):
        # Budget 20000: two jobs of 10000 fit, one of 1 waits behind them, with one share of 100 saved up.
        calls = [join(1), job(1, 5, 10000, 1000), job(1, 5, 10000, 1000), job(1, 5, 1, 1000), tick(), players()]
        first = ask(*calls)
        self.assertEqual(first[1:4], [[0, 1], [0, 2], [0, 3]])
        self.assertEqual(first[4], [0, 1, 1, 1, helper.draw(0, 1, 5, 0, 1000), 2, 1, helper.draw(0, 1, 5, 1, 1000)])
        self.assertEqual(first[5], [0, 1, 1, 1, 100, 20000])
        self.assertEqual(ask(begin(), *calls)[1:], first)
        self.assertEqual(ask(players()), [[0]])

    def test_begin_in_the_midst(self):
        # What came before leaves a turn in the midst, begun, with something saved up.
        before = [begin(9, 20000, 10000), join(1), join(2, 7), join(3), job(1), job(2, 0, 10000), job(2, 0, 9999),
                  job(2, 0, 9999), job(2, 0, 9999), tick(3), job(3)]
        after = [begin(4, 30000, 200), players(), queue(2), join(5, 2), join(2, 1), job(2, 3, 200, 100),
                 job(5, 3, 400, 100), tick(), players()]
        answered = ask(*before, *after)[len(before):]
        self.assertEqual(answered, ask(*after))
        self.assertEqual(answered[:7], [[0], [0], [-2], [0, 1], [0, 2], [0, 1], [0, 2]])
        self.assertEqual(answered[7], [0, 1, 2, 5, helper.draw(4, 1, 3, 0, 100), 1, 2, helper.draw(4, 1, 3, 1, 100)])
        self.assertEqual(answered[8], [0, 5, 2, 0, 0, 400, 2, 1, 0, 0, 200])

    def test_budget_is_the_one_told(self):
        calls = [join(1, 100)] + [job(1, 0, 10000)] * 4 + [tick()]
        self.assertEqual(len(drawn(last(begin(0, 20000, 10000), *calls))), 2)
        self.assertEqual(len(drawn(last(begin(0, 30000, 10000), *calls))), 3)
        self.assertEqual(len(drawn(last(begin(0, 39999, 10000), *calls))), 3)
        self.assertEqual(len(drawn(last(begin(0, 40000, 10000), *calls))), 4)

    def test_refused_begin_changes_nothing(self):
        before = [begin(8, 30000, 300), join(1, 2), join(2, 3), job(1, 1, 600), job(2, 1, 10000), job(1, 2, 7000),
                  tick(), job(2, 9, 9, 9)]
        after = [players(), queue(1), queue(2), job(1, 1, 1, 50), tick(2), players()]
        plain = ask(*before, *after)[len(before):]
        for refused in (begin(-1), begin(1, 19999), begin(1, 20000, 10001)):
            answered = ask(*before, refused, *after)[len(before):]
            self.assertEqual(answered, [[-1]] + plain)


if __name__ == "__main__":
    unittest.main()
