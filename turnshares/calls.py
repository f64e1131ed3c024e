"""What each call answers. All refusals are looked for, from -1 downwards, before anything is changed."""

from turnshares.turns import Player

NOT_IN_RANGE = -1
NOT_THERE = -2
THERE_ALREADY = -3
NO_PLACE = -5

SEEDS = (0, 1000000000000000000)
BUDGETS = (20000, 1000000)
QUANTUMS = (100, 10000)
PLAYERS = (1, 999)
WEIGHTS = (1, 100)
THINGS = (0, 1000000)
COSTS = (1, 10000)
SIDES = (1, 1000000000)
TICKS_AT_ONCE = (1, 20)

MOST_PLAYERS = 8
MOST_JOBS = 64
LAST_TICK = 1000000000


def all_within(numbers, ranges):
    for number, told in zip(numbers, ranges):
        if number < told[0] or number > told[1]:
            return False
    return True


def answer_begin(session, numbers):
    if not all_within(numbers, (SEEDS, BUDGETS, QUANTUMS)):
        return [NOT_IN_RANGE]
    session.begin(numbers[0], numbers[1], numbers[2])
    return [0]


def answer_join(session, numbers):
    if not all_within(numbers, (PLAYERS, WEIGHTS)):
        return [NOT_IN_RANGE]
    if session.place_of(numbers[0]) is not None:
        return [THERE_ALREADY]
    if len(session.players) >= MOST_PLAYERS:
        return [NO_PLACE]
    session.players.append(Player(numbers[0], numbers[1]))
    return [0, len(session.players)]


def answer_leave(session, numbers):
    place = session.place_of(numbers[0])
    if place is None:
        return [NOT_THERE]
    gone = len(session.players[place].jobs)
    session.remove_player(place)
    return [0, gone]


def answer_job(session, numbers):
    # The player is left out: one outside of the range of join is one who isn't there.
    if not all_within(numbers[1:], (THINGS, COSTS, SIDES)):
        return [NOT_IN_RANGE]
    player = session.find_player(numbers[0])
    if player is None:
        return [NOT_THERE]
    if session.count_jobs() >= MOST_JOBS:
        return [NO_PLACE]
    job = session.add_job(player, numbers[1], numbers[2], numbers[3])
    return [0, job.number]


def answer_drop(session, numbers):
    if not session.drop_job(numbers[0]):
        return [NOT_THERE]
    return [0]


def answer_tick(session, numbers):
    if not all_within(numbers, (TICKS_AT_ONCE,)):
        return [NOT_IN_RANGE]
    if session.tick + numbers[0] > LAST_TICK:
        return [NO_PLACE]
    row = []
    for passed in range(numbers[0]):
        row.extend(session.run_tick())
    return [0, session.tick] + row


def answer_queue(session, numbers):
    player = session.find_player(numbers[0])
    if player is None:
        return [NOT_THERE]
    row = [0]
    for job in player.jobs:
        row.extend([job.number, job.thing, job.cost, job.sides])
    return row


def answer_players(session, numbers):
    row = [0]
    for player in session.players:
        row.extend([player.number, player.weight, len(player.jobs), player.saved, player.done])
    return row


ANSWERS = (
    answer_begin,
    answer_join,
    answer_leave,
    answer_job,
    answer_drop,
    answer_tick,
    answer_queue,
    answer_players,
)


def answer(session, call, numbers):
    return ANSWERS[call](session, numbers)
