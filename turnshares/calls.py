"""What each call answers. All refusals are looked for, from -1 downwards, before anything is changed."""

from turnshares.chance import draw, picked, raw_number, shuffled
from turnshares.turns import Player

NOT_IN_RANGE = -1
NOT_THERE = -2
THERE_ALREADY = -3
NOTHING = -4
NO_PLACE = -5

SEEDS = (0, 1000000000000000000)
BUDGETS = (20000, 1000000)
QUANTUMS = (100, 10000)
PLAYERS = (1, 999)
WEIGHTS = (1, 100)
THINGS = (0, 1000000)
COSTS = (1, 10000)
SIDES = (1, 1000000000)
TICKS_AT_ONCE = (1, 20)
TICKS = (0, 1000000000)
COUNTS = (0, 1000000)
SHUFFLED = (0, 64)
ROW_LENGTHS = (1, 32)
ROW_WEIGHTS = (0, 1000000)

MOST_PLAYERS = 8
MOST_JOBS = 64
LAST_TICK = 1000000000
HALF_WORD = 4294967296


def all_within(numbers, ranges):
    for number, told in zip(numbers, ranges):
        if number < told[0] or number > told[1]:
            return False
    return True


def answer_begin(session, numbers):
    if not all_within(numbers, (SEEDS, BUDGETS, QUANTUMS)):
        return [NOT_IN_RANGE]
    session.begin(numbers[0], numbers[1], numbers[2])
    return [0]


def answer_join(session, numbers):
    if not all_within(numbers, (PLAYERS, WEIGHTS)):
        return [NOT_IN_RANGE]
    if session.place_of(numbers[0]) is not None:
        return [THERE_ALREADY]
    if len(session.players) >= MOST_PLAYERS:
        return [NO_PLACE]
    session.players.append(Player(numbers[0], numbers[1]))
    return [0, len(session.players)]


def answer_leave(session, numbers):
    place = session.place_of(numbers[0])
    if place is None:
        return [NOT_THERE]
    gone = len(session.players[place].jobs)
    session.remove_player(place)
    return [0, gone]


def answer_job(session, numbers):
    # The player is left out: one outside of the range of join is one who isn't there.
    if not all_within(numbers[1:], (THINGS, COSTS, SIDES)):
        return [NOT_IN_RANGE]
    player = session.find_player(numbers[0])
    if player is None:
        return [NOT_THERE]
    if session.count_jobs() >= MOST_JOBS:
        return [NO_PLACE]
    job = session.add_job(player, numbers[1], numbers[2], numbers[3])
    return [0, job.number]


def answer_drop(session, numbers):
    if not session.drop_job(numbers[0]):
        return [NOT_THERE]
    return [0]


def answer_tick(session, numbers):
    if not all_within(numbers, (TICKS_AT_ONCE,)):
        return [NOT_IN_RANGE]
    if session.tick + numbers[0] > LAST_TICK:
        return [NO_PLACE]
    row = session.run_ticks(numbers[0])
    return [0, session.tick] + row


def answer_queue(session, numbers):
    player = session.find_player(numbers[0])
    if player is None:
        return [NOT_THERE]
    row = [0]
    for job in player.jobs:
        row.extend([job.number, job.thing, job.cost, job.sides])
    return row


def answer_players(session, numbers):
    row = [0]
    for player in session.players:
        row.extend([player.number, player.weight, len(player.jobs), player.saved, player.done])
    return row


def answer_weigh(session, numbers):
    if not all_within(numbers[1:], (WEIGHTS,)):
        return [NOT_IN_RANGE]
    player = session.find_player(numbers[0])
    if player is None:
        return [NOT_THERE]
    player.weight = numbers[1]
    return [0]


def answer_draw(session, numbers):
    if not all_within(numbers, (TICKS, THINGS, COUNTS, SIDES)):
        return [NOT_IN_RANGE]
    return [0, draw(session.seed, numbers[0], numbers[1], numbers[2], numbers[3])]


def answer_raw(session, numbers):
    if not all_within(numbers, (TICKS, THINGS, COUNTS)):
        return [NOT_IN_RANGE]
    raw = raw_number(session.seed, numbers[0], numbers[1], numbers[2], 0)
    # In two parts: a raw number may be greater than any number that is told in a call.
    return [0, raw // HALF_WORD, raw % HALF_WORD]


def answer_shuffle(session, numbers):
    if not all_within(numbers, (TICKS, THINGS, SHUFFLED)):
        return [NOT_IN_RANGE]
    return [0] + shuffled(session.seed, numbers[0], numbers[1], numbers[2])


def answer_pick(session, numbers):
    weights = numbers[3:]
    if not all_within(numbers[:3], (TICKS, THINGS, ROW_LENGTHS)):
        return [NOT_IN_RANGE]
    if not all_within(weights, [ROW_WEIGHTS for weight in weights]):
        return [NOT_IN_RANGE]
    if sum(weights) == 0:
        return [NOTHING]
    return [0, picked(session.seed, numbers[0], numbers[1], weights)]


def answer_bound(session, numbers):
    player = session.find_player(numbers[0])
    if player is None:
        return [NOT_THERE]
    if not player.jobs:
        return [NOTHING]
    return [0, session.bound_of(player)]


def answer_try(session, numbers):
    if not all_within(numbers, (TICKS_AT_ONCE,)):
        return [NOT_IN_RANGE]
    return [0] + session.copied().run_ticks(numbers[0])


def answer_state(session, numbers):
    begun = 1 if session.begun else 0
    row = [0, session.tick, session.budget, session.quantum, len(session.players)]
    return row + [session.turn, begun, session.spent, session.next_job]


ANSWERS = (
    answer_begin,
    answer_join,
    answer_leave,
    answer_job,
    answer_drop,
    answer_tick,
    answer_queue,
    answer_players,
    answer_weigh,
    answer_draw,
    answer_raw,
    answer_shuffle,
    answer_pick,
    answer_bound,
    answer_try,
    answer_state,
)


def answer(session, call, numbers):
    return ANSWERS[call](session, numbers)
