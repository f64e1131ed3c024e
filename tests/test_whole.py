"""Lists in which all 16 calls come, against a second program that goes by the document's words step by step."""

import random
import unittest

from tests import helper
from tests.helper import (FAR, ask, assert_refused, begin, bound, draw_of, drop, job, join, last, leave, pick, players,
                          queue, raw_of, shuffle, split, state, tick, try_out, weigh)
from turnshares.world import answers

REFUSALS = (-1, -2, -3, -4, -5)
NAMES = ("begin", "join", "leave", "job", "drop", "tick", "queue", "players", "weigh", "draw", "raw", "shuffle", "pick",
         "bound", "try_out", "state")
# What of a call's numbers is outside of its range is -1; None is for a number that is not looked at so.
TICK, THING, COUNT, SIDES = (0, 10 ** 9), (0, 10 ** 6), (0, 10 ** 6), (1, 10 ** 9)
RANGES = ([(0, FAR), (20000, 1000000), (100, 10000)], [(1, 999), (1, 100)], [None], [None, THING, (1, 10000), SIDES],
          [None], [(1, 20)], [None], [], [None, (1, 100)], [TICK, THING, COUNT, SIDES], [TICK, THING, COUNT],
          [TICK, THING, (0, 64)], [TICK, THING, (1, 32)], [None], [(1, 20)], [])


class Words:
    """One world by the words: each call gives back what is due of the refusals, and what is answered else."""

    def __init__(self):
        self.seed, self.budget, self.quantum = 0, 20000, 100
        self.people, self.number, self.next_job, self.spent = [], 0, 1, 0
        self.turn, self.begun = 0, False

    def answer(self, call, numbers):
        due = set()
        for number, told in zip(numbers, RANGES[call]):
            if told is not None and not told[0] <= number <= told[1]:
                due.add(-1)
        due |= getattr(self, "refuse_" + NAMES[call], lambda *told: set())(*numbers)
        return [max(due)] if due else [0] + getattr(self, NAMES[call])(*numbers)

    def person(self, number):
        return next((person for person in self.people if person["number"] == number), None)

    def nobody(self, number):
        return {-2} if self.person(number) is None else set()

    def full(self):
        return {-5} if sum(len(person["jobs"]) for person in self.people) == 64 else set()

    def refuse_join(self, number, weight):
        return ({-3} if self.person(number) else set()) | ({-5} if len(self.people) == 8 else set())

    def refuse_leave(self, number):
        return self.nobody(number)

    refuse_queue = refuse_leave

    def refuse_job(self, number, thing, cost, sides):
        return self.nobody(number) | self.full()

    def refuse_drop(self, number):
        return set() if any(each[0] == number for person in self.people for each in person["jobs"]) else {-2}

    def refuse_weigh(self, number, weight):
        return self.nobody(number)

    def refuse_pick(self, tick_number, thing, length, *weights):
        return ({-1} if any(not 0 <= weight <= 10 ** 6 for weight in weights) else set()) | (
            {-4} if not any(weights) else set())

    def refuse_bound(self, number):
        return self.nobody(number) or (set() if self.person(number)["jobs"] else {-4})

    def begin(self, seed, budget, quantum):
        self.__init__()
        self.seed, self.budget, self.quantum = seed, budget, quantum
        return []

    def join(self, number, weight):
        self.people.append({"number": number, "weight": weight, "jobs": [], "saved": 0, "done": 0})
        return [len(self.people)]

    def leave(self, number):
        whose = self.people[self.turn]
        order = self.people[self.turn + 1:] + self.people[:self.turn]
        gone = self.person(number)
        self.people = [person for person in self.people if person is not gone]
        if whose is gone:
            whose, self.begun = (order[0] if order else None), False
        self.turn = next((place for place, person in enumerate(self.people) if person is whose), 0)
        return [len(gone["jobs"])]

    def job(self, number, thing, cost, sides):
        self.person(number)["jobs"].append((self.next_job, thing, cost, sides))
        self.next_job += 1
        return [self.next_job - 1]

    def drop(self, number):
        for person in self.people:
            if any(each[0] == number for each in person["jobs"]):
                person["jobs"] = [each for each in person["jobs"] if each[0] != number]
                person["saved"] = person["saved"] if person["jobs"] else 0
        return []

    def tick(self, k):
        row = [number for passed in range(k) for number in self.one_tick()]
        return [self.number] + row

    def one_tick(self):
        self.number += 1
        left, drew, row = self.budget, [], []
        while any(person["jobs"] for person in self.people):
            person = self.people[self.turn]
            if not person["jobs"]:
                person["saved"] = 0
                self.turn, self.begun = (self.turn + 1) % len(self.people), False
                continue
            if not self.begun:
                person["saved"] += person["weight"] * self.quantum
                self.begun = True
                continue
            number, thing, cost, sides = person["jobs"][0]
            if person["saved"] < cost:
                self.turn, self.begun = (self.turn + 1) % len(self.people), False
                continue
            if left < cost:
                break
            left -= cost
            person["jobs"] = person["jobs"][1:]
            person["saved"] = person["saved"] - cost if person["jobs"] else 0
            person["done"] += cost
            row += [number, person["number"], helper.draw(self.seed, self.number, thing, drew.count(thing), sides)]
            drew.append(thing)
        self.spent = self.budget - left
        return row

    def queue(self, number):
        return [told for each in self.person(number)["jobs"] for told in each]

    def players(self):
        return [told for person in self.people for told in (person["number"], person["weight"], len(person["jobs"]),
                                                            person["saved"], person["done"])]

    def weigh(self, number, weight):
        self.person(number)["weight"] = weight
        return []

    def draw(self, *told):
        return [helper.draw(self.seed, *told)]

    def raw(self, *told):
        return list(divmod(helper.raw(self.seed, *told, 0), 2 ** 32))

    def shuffle(self, *told):
        return helper.shuffled(self.seed, *told)

    def pick(self, tick_number, thing, length, *weights):
        return [helper.picked(self.seed, tick_number, thing, weights)]

    def bound(self, number):
        person = self.person(number)
        return [helper.bound_by_words(self.budget, self.quantum, person["weight"], person["jobs"][0][2],
                                      [each["weight"] for each in self.people])]

    def try_out(self, k):
        other = Words()
        other.__dict__.update(self.__dict__)
        other.people = [dict(person, jobs=list(person["jobs"])) for person in self.people]
        return other.tick(k)[1:]

    def state(self):
        return [self.number, self.budget, self.quantum, len(self.people), self.turn, int(self.begun), self.spent,
                self.next_job]


def some(chance, told, wrong):
    """A number of this range, often at its edges; seldom one that is outside."""
    if chance.random() < wrong:
        return chance.choice((told[0] - 1, told[1] + 1, -FAR, FAR))
    return chance.choice((told[0], told[1], chance.randint(*told), chance.randint(told[0], min(told[1], told[0] + 50))))


def some_calls(chance, count):
    """So many calls, all 16 among them if they are enough, with a mild lean to jobs and ticks."""
    wrong = chance.choice((0, 0.03, 0.2))
    kinds = list(range(16)) + chance.choices(range(16), [1, 9, 4, 40, 5, 9, 4, 4, 5, 3, 3, 2, 3, 5, 5, 6], k=count)
    kinds = kinds[:count]
    chance.shuffle(kinds)
    calls = []
    for kind in kinds:
        person = [chance.choice((1, 2, 3, 4, 5, 6, 7, 8, 9, 999))]
        numbers = [some(chance, told, wrong) for told in RANGES[kind] if told is not None]
        if kind == 1:
            numbers = [some(chance, (1, 999), wrong) if chance.random() < 0.1 else person[0], numbers[1]]
        elif kind in (2, 3, 6, 8, 13):
            numbers = person + numbers
            if kind == 3 and chance.random() < 0.5:
                # Few things, so that one has several draws in a tick.
                numbers[1] = chance.randint(0, 3)
        elif kind == 4:
            numbers = [chance.randint(0, 40)]
        elif kind == 12:
            length = chance.choice((0, 1, 2, 5, 31, 32, 33, 60))
            numbers = numbers[:2] + [length] + [chance.choice((0, some(chance, (0, 10 ** 6), wrong / 9)))
                                                for place in range(length)]
        calls.append((kind, *numbers))
    return calls


class WordsTest(unittest.TestCase):
    def compare(self, calls):
        words = Words()
        answered = ask(*calls)
        self.assertEqual(len(answered), len(calls))
        for place, call in enumerate(calls):
            self.assertEqual(answered[place], words.answer(call[0], call[1:]), (place, call))
        return answered

    def test_lists_of_all_calls(self):
        chance = random.Random(16)
        refused = set()
        done = 0
        for passed in range(40):
            calls = some_calls(chance, 250)
            self.assertEqual({call[0] for call in calls}, set(range(16)))
            for call, row in zip(calls, self.compare(calls)):
                refused.add((call[0], row[0]))
                done += call[0] == 5 and len(row) > 2
        # What was compared is worth it: each call was taken and, where its row names refusals, refused.
        named = [(0, -1), (1, -1), (1, -3), (1, -5), (2, -2), (3, -1), (3, -2), (4, -2), (5, -1), (6, -2), (8, -1),
                 (8, -2), (9, -1), (10, -1), (11, -1), (12, -1), (12, -4), (13, -2), (13, -4), (14, -1)]
        self.assertLessEqual(set(named), refused)
        self.assertLessEqual({(call, 0) for call in range(16)}, refused)
        self.assertGreater(done, 100)

    def test_lists_with_full_places(self):
        chance = random.Random(5)
        for passed in range(10):
            full = [begin(passed, chance.choice((20000, 1000000)), chance.choice((100, 10000)))]
            full += [join(number, chance.randint(1, 100)) for number in range(1, 9)]
            full += [job(chance.randint(1, 8), chance.randint(0, 3), chance.randint(1, 10000), 100)
                     for count in range(65)]
            more = [call for call in some_calls(chance, 220) if call[0] != 0]
            self.compare(full + more)

    def test_short_lists(self):
        chance = random.Random(2)
        for passed in range(300):
            self.compare(some_calls(chance, chance.randint(1, 16)))

    def test_each_call_alone(self):
        for call in (begin(), join(1), leave(1), job(1), drop(1), tick(), queue(1), players(), weigh(1, 1), draw_of(),
                     raw_of(), shuffle(), pick(), bound(1), try_out(), state()):
            self.compare([call])


class Unchanging(list):
    """A list that fails as soon as somebody changes it, for a while only too."""

    def refuse(self, *told):
        raise AssertionError("changed")

    append = extend = insert = remove = pop = clear = sort = reverse = refuse
    __setitem__ = __delitem__ = __iadd__ = __imul__ = refuse


def flat(calls):
    return [number for call in calls for number in call]


ALL = [begin(3, 20000, 1000), join(1, 2), join(2, 5), join(3), job(1, 5, 9000, 50), job(2, 5, 9000, 50),
       job(2, 6, 900, 50), try_out(20), bound(1), tick(2), state(), players(), queue(1), weigh(3, 50), job(3, 1, 77, 9),
       job(3, 1, 77, 9), drop(5), pick(1, 2, [3, 0, 4]), shuffle(1, 2, 9), draw_of(1, 2, 3, 4), raw_of(1, 2, 3),
       leave(2), tick(1), state(), players()]


class InterfaceTest(unittest.TestCase):
    def lists(self):
        chance = random.Random(300)
        return [flat(ALL)] + [flat(some_calls(chance, 300)) for passed in range(8)]

    def test_300_calls(self):
        for calls in self.lists()[1:]:
            self.assertLessEqual(len(calls), 16000)
            self.assertEqual(len(split(answers(calls))), 300)

    def test_16000_numbers(self):
        calls = flat([pick(1, thing, [1] * 60) for thing in range(250)])
        self.assertEqual(len(calls), 16000)
        self.assertEqual(answers(calls), [1, -1] * 250)
        calls = flat([pick(1, thing, [1] * 32) for thing in range(300)])
        self.assertEqual(answers(calls), flat([(2, 0, helper.picked(0, 1, thing, [1] * 32)) for thing in range(300)]))

    def test_the_longest_answers(self):
        for call, length in ((shuffle(1, 2, 64), 65), (state(), 9)):
            self.assertEqual([len(row) for row in ask(*[call] * 300)], [length] * 300)
        full = [begin(0, 1000000, 10000), join(1, 100)] + [job(1, 0, 10000)] * 64
        self.assertEqual([len(row) for row in ask(*full, *[try_out(20)] * 234)[66:]], [1 + 3 * 64] * 234)

    def test_what_is_handed_in_is_not_changed(self):
        for calls in self.lists():
            handed = Unchanging(calls)
            given = answers(handed)
            self.assertEqual(list(handed), calls)
            self.assertEqual(given, answers(list(calls)))

    def test_nothing_is_kept(self):
        lists = self.lists()
        first = [answers(list(calls)) for calls in lists]
        for calls, given in zip(reversed(lists), reversed(first)):
            self.assertEqual(answers(calls), given)
            self.assertEqual(answers([15]), [9, 0, 0, 20000, 100, 0, 0, 0, 0, 1])
            self.assertEqual(answers(calls), given)
            # What was given back is the caller's own.
            answers(calls).clear()
            self.assertEqual(answers(calls), given)

    def test_kinds(self):
        for calls in self.lists():
            given = answers(calls)
            self.assertIs(type(given), list)
            self.assertEqual({type(number) for number in given}, {int})

    def test_an_answer_begins_with_0_or_is_a_refusal_alone(self):
        for calls in self.lists():
            for row in split(answers(calls)):
                self.assertTrue(row[0] == 0 or (row[0] in REFUSALS and len(row) == 1))

    def test_all_calls_in_one_list(self):
        self.assertEqual({call[0] for call in ALL}, set(range(16)))
        words = Words()
        self.assertEqual(ask(*ALL), [words.answer(call[0], call[1:]) for call in ALL])

    def test_refusals_change_nothing(self):
        before = ALL[:-4]
        for call, number in ((begin(-1), -1), (join(1), -3), (leave(9), -2), (job(9), -2), (drop(99), -2),
                             (tick(0), -1), (queue(9), -2), (weigh(1, 0), -1), (draw_of(-1), -1), (raw_of(-1), -1),
                             (shuffle(1, 2, 65), -1), (pick(1, 2, []), -1), (pick(1, 2, [0]), -4), (bound(9), -2),
                             (try_out(0), -1)):
            assert_refused(self, before, call, number)


class ThingTest(unittest.TestCase):
    def test_no_other_thing_matters(self):
        # Whatever others do in the same tick, ahead of it or behind it, a thing's draws are those of its own counts.
        chance = random.Random(4)
        for passed in range(20):
            mine = [job(1, 50, 10, 1000000)] * 3
            others = [job(2, chance.randint(51, 60), chance.randint(1, 500), 9) for count in range(20)]
            calls = mine + others
            chance.shuffle(calls)
            row = last(begin(5), join(2, chance.randint(1, 9)), join(1), *calls, tick())
            drew = [row[place + 2] for place in range(2, len(row), 3) if row[place + 1] == 1]
            self.assertEqual(drew, [last(begin(5), draw_of(1, 50, count, 1000000))[1] for count in range(3)])


if __name__ == "__main__":
    unittest.main()
