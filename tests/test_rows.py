"""What is shuffled, and what is picked by weights."""

import unittest

from tests import helper
from tests.helper import FAR, ask, assert_refused, begin, draw_of, job, join, last, pick, players, shuffle, state, tick
from turnshares.world import answers

BILLION = 1000000000
MILLION = 1000000
BUSY = [begin(5, 20000, 1000), join(1, 2), join(2), job(1, 4, 9000), job(2, 4, 9000), job(1, 4, 9000), tick()]
SEEDS = (0, 1, 99, FAR)
PLACES = [(0, 0), (BILLION, 0), (0, MILLION), (BILLION, MILLION), (3, 4)]
OUTSIDE = [(-1, 0), (BILLION + 1, 0), (0, -1), (0, MILLION + 1), (FAR, 0), (-FAR, 0), (0, FAR), (0, -FAR), (-1, -1)]


class ShuffleTest(unittest.TestCase):
    def test_by_the_words(self):
        for seed in SEEDS:
            for place in PLACES:
                for n in (2, 3, 10):
                    self.assertEqual(last(begin(seed), shuffle(*place, n)), [0] + helper.shuffled(seed, *place, n))

    def test_known_rows(self):
        # Worked out once by the document's words.
        self.assertEqual(last(shuffle(3, 4, 6)), [0, 3, 1, 4, 5, 2, 0])
        self.assertEqual(last(begin(1), shuffle(3, 4, 6)), [0, 5, 4, 2, 3, 1, 0])

    def test_step_by_step(self):
        # For n of 3: the places 2 and j are exchanged, then the places 1 and j.
        for thing in range(20):
            j, i = (row[1] for row in ask(draw_of(7, thing, 2, 3), draw_of(7, thing, 1, 2)))
            row = [0, 1, 2]
            row[2], row[j] = row[j], row[2]
            row[1], row[i] = row[i], row[1]
            self.assertEqual(last(shuffle(7, thing, 3)), [0] + row)

    def test_least(self):
        for seed in SEEDS:
            self.assertEqual(ask(begin(seed), shuffle(3, 4, 0), shuffle(3, 4, 1))[1:], [[0], [0, 0]])

    def test_two(self):
        found = [last(shuffle(0, thing, 2))[1:] for thing in range(30)]
        self.assertEqual(sorted(map(list, set(map(tuple, found)))), [[0, 1], [1, 0]])
        self.assertEqual(found, [helper.shuffled(0, 0, thing, 2) for thing in range(30)])

    def test_greatest(self):
        for seed in SEEDS:
            row = last(begin(seed), shuffle(3, 4, 64))
            self.assertEqual(row, [0] + helper.shuffled(seed, 3, 4, 64))
            self.assertEqual(sorted(row[1:]), list(range(64)))

    def test_each_place_just_once(self):
        for n in range(65):
            self.assertEqual(sorted(last(begin(3), shuffle(1, n, n))[1:]), list(range(n)))

    def test_each_order_comes(self):
        found = {tuple(last(shuffle(0, thing, 3))[1:]) for thing in range(100)}
        self.assertEqual(len(found), 6)

    def test_the_same_for_the_same_seed_tick_and_thing(self):
        call = shuffle(2, 4, 30)
        row = last(begin(5), call)
        self.assertEqual(last(*BUSY, call, tick(), call), row)
        self.assertEqual(ask(begin(5), call, begin(5), draw_of(2, 4), call)[1::3], [row, row])
        for other in ((begin(6), call), (begin(5), shuffle(3, 4, 30)), (begin(5), shuffle(2, 5, 30))):
            self.assertNotEqual(last(*other), row)

    def test_just_outside(self):
        for n in (-1, 65, FAR, -FAR):
            assert_refused(self, BUSY, shuffle(3, 4, n), -1)
        for place in OUTSIDE:
            assert_refused(self, BUSY, shuffle(*place, 5), -1)
        assert_refused(self, BUSY, shuffle(-1, -1, -1), -1)


class PickTest(unittest.TestCase):
    def places(self, weights, count=60):
        """The places picked for many things, just as the document's words tell them."""
        found = [answer[1] for answer in ask(*[pick(2, thing, weights) for thing in range(count)])]
        self.assertEqual(found, [helper.picked(0, 2, thing, weights) for thing in range(count)])
        return sorted(set(found))

    def test_by_the_words(self):
        rows = ([5, 0, 7, 1], [1, 1], [MILLION, 1, MILLION], list(range(32)), [3, 2, 1, 0])
        for seed in SEEDS:
            for place in PLACES:
                for weights in rows:
                    self.assertEqual(last(begin(seed), pick(*place, weights)),
                                     [0, helper.picked(seed, *place, weights)])

    def test_where_the_draw_falls(self):
        # Together 6: a draw of 0 is the first one's, 1 and 2 the second one's, 3 to 5 the third one's.
        for thing in range(60):
            x = last(begin(4), draw_of(9, thing, 0, 6))[1]
            self.assertEqual(last(begin(4), pick(9, thing, [1, 2, 3])), [0, (0, 1, 1, 2, 2, 2)[x]])

    def test_known_places(self):
        self.assertEqual(last(pick(3, 4, [5, 0, 7, 1])), [0, 2])
        self.assertEqual(last(begin(FAR), pick(3, 4, [5, 0, 7, 1])), [0, 0])

    def test_one_weight(self):
        for weight in (1, 2, 999999, MILLION):
            self.assertEqual(last(pick(3, 4, [weight])), [0, 0])

    def test_weights_of_0(self):
        self.assertEqual(self.places([0, 0, 3, 4]), [2, 3])
        self.assertEqual(self.places([3, 4, 0, 0]), [0, 1])
        self.assertEqual(self.places([3, 0, 0, 4]), [0, 3])
        self.assertEqual(self.places([0, 1, 0, 2, 0, 3, 0]), [1, 3, 5])
        self.assertEqual(self.places([0] * 31 + [1]), [31])
        self.assertEqual(self.places([1] + [0] * 31), [0])
        self.assertEqual(self.places([0, MILLION]), [1])

    def test_32_weights(self):
        self.assertEqual(self.places([1] * 32, 300), list(range(32)))
        self.assertEqual(self.places([MILLION] * 32, 300), list(range(32)))

    def test_all_weights_0(self):
        for length in (1, 2, 31, 32):
            assert_refused(self, BUSY, pick(3, 4, [0] * length), -4)

    def test_lengths_just_outside(self):
        for length in (0, 33, 34, 59, 60):
            assert_refused(self, BUSY, pick(3, 4, [1] * length), -1)

    def test_weights_at_the_edges(self):
        for place in (0, 1, 31):
            for weight in (0, 1, MILLION - 1, MILLION):
                weights = [7] * 32
                weights[place] = weight
                self.assertEqual(last(begin(9), pick(3, 4, weights)), [0, helper.picked(9, 3, 4, weights)])

    def test_weights_just_outside(self):
        for length in (1, 2, 32):
            for place in {0, length // 2, length - 1}:
                for weight in (-1, MILLION + 1, FAR, -FAR):
                    weights = [7] * length
                    weights[place] = weight
                    assert_refused(self, BUSY, pick(3, 4, weights), -1)

    def test_tick_and_thing_just_outside(self):
        for place in OUTSIDE:
            assert_refused(self, BUSY, pick(*place, [1, 2]), -1)

    def test_the_refusal_nearest_to_0(self):
        for call in (pick(-1, 4, [0, 0]), pick(3, MILLION + 1, [0]), pick(3, 4, []), pick(3, 4, [0] * 33),
                     pick(3, 4, [0] * 60), pick(-1, 4, []), pick(3, 4, [0, -1]), pick(3, 4, [1, -1]),
                     pick(3, 4, [-1, 1, 0])):
            assert_refused(self, BUSY, call, -1)

    def test_the_same_for_the_same_seed_tick_and_thing(self):
        weights = list(range(1, 33))
        plain = [last(begin(5), pick(2, thing, weights)) for thing in range(10)]
        busy = ask(*BUSY, *[pick(2, thing, weights) for thing in range(10)])[-10:]
        self.assertEqual(busy, plain)
        self.assertEqual(ask(*BUSY, pick(2, 4, weights), tick())[-1], last(*BUSY, tick()))

    def test_calls_that_follow(self):
        # The weights look like calls themselves: as many as the row's length tells are passed over.
        for weights in ([], [7], [7] * 32, [7] * 33, [7] * 60, [0], [0] * 32, [15, -1], [FAR, 12], [-FAR] * 60):
            answered = ask(join(1), pick(3, 4, weights), state(), pick(-1, 4, weights), join(2), players())
            self.assertEqual(len(answered), 6)
            self.assertEqual(answered[2], [0, 0, 20000, 100, 1, 0, 0, 0, 1])
            self.assertEqual(answered[3:], [[-1], [0, 2], [0, 1, 1, 0, 0, 0, 2, 1, 0, 0, 0]])

    def test_one_behind_another(self):
        self.assertEqual(answers([12, 0, 0, 2, 0, 9, 12, 0, 0, 0, 12, 0, 0, 3, 0, 0, 0, 12, 0, 0, 3, 0, 0, 1, 7]),
                         [2, 0, 1, 1, -1, 1, -4, 2, 0, 2, 1, 0])


if __name__ == "__main__":
    unittest.main()
