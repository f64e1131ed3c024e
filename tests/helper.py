"""What the tests share: calls by name, answers split up, and chance as the document's words tell it."""

from turnshares.world import answers

WORD = 2 ** 64
G = 11400714819323198485
FAR = 10 ** 18


def begin(seed=0, budget=20000, quantum=100):
    return (0, seed, budget, quantum)


def join(player, weight=1):
    return (1, player, weight)


def leave(player):
    return (2, player)


def job(player, thing=0, cost=100, sides=6):
    return (3, player, thing, cost, sides)


def drop(number):
    return (4, number)


def tick(k=1):
    return (5, k)


def queue(player):
    return (6, player)


def players():
    return (7,)


def weigh(player, weight):
    return (8, player, weight)


def draw_of(tick_number=0, thing=0, count=0, sides=6):
    return (9, tick_number, thing, count, sides)


def raw_of(tick_number=0, thing=0, count=0):
    return (10, tick_number, thing, count)


def shuffle(tick_number=0, thing=0, n=5):
    return (11, tick_number, thing, n)


def pick(tick_number=0, thing=0, weights=(1,)):
    return (12, tick_number, thing, len(weights), *weights)


def bound(player):
    return (13, player)


def try_out(k=1):
    return (14, k)


def state():
    return (15,)


def split(row):
    """The answers one by one, without the counts ahead of them."""
    parts = []
    while row:
        count = row[0]
        parts.append(row[1:1 + count])
        assert len(parts[-1]) == count >= 1
        row = row[1 + count:]
    return parts


def ask(*calls):
    """The answers to these calls on one new object."""
    return split(answers([number for call in calls for number in call]))


def last(*calls):
    return ask(*calls)[-1]


def everything():
    """Calls that ask for all there is, then for what comes of it; players 1 to 9 are looked at."""
    seen = [state(), players()] + [queue(number) for number in range(1, 10)]
    return seen + [try_out(3), tick(2)] + seen + [raw_of(1, 2, 3)]


def assert_refused(case, before, call, number):
    """The call is answered with this refusal, and all is as it was."""
    answered = ask(*before, call, *everything())[len(before):]
    case.assertEqual(answered[0], [number], call)
    case.assertEqual(answered[1:], ask(*before, *everything())[len(before):], call)


def done(answer):
    """Of a tick's answer, the number of each job done and its player, in order."""
    return list(zip(answer[2::3], answer[3::3]))


def drawn(answer):
    return answer[4::3]


def order(answer):
    return answer[2::3]


def difference(x, y):
    return sum(2 ** place for place in range(64) if x // 2 ** place % 2 != y // 2 ** place % 2)


def stir(z):
    a = difference(z, z // 1073741824) * 13787848793156543929 % WORD
    b = difference(a, a // 134217728) * 10723151780598845931 % WORD
    return difference(b, b // 2147483648)


def raw(seed, tick_number, thing, count, attempt):
    a = stir((seed + G) % WORD)
    b = stir((a + (tick_number + 1) * G) % WORD)
    c = stir((b + (thing + 1) * G) % WORD)
    d = stir((c + (count + 1) * G) % WORD)
    return stir((d + (attempt + 1) * G) % WORD)


def draw(seed, tick_number, thing, count, sides):
    limit = WORD - WORD % sides
    for attempt in range(64):
        number = raw(seed, tick_number, thing, count, attempt)
        if number < limit:
            return number % sides
    return raw(seed, tick_number, thing, count, 64) % sides


def shuffled(seed, tick_number, thing, n):
    row = list(range(n))
    for i in reversed(range(1, n)):
        j = draw(seed, tick_number, thing, i, i + 1)
        row[i], row[j] = row[j], row[i]
    return row


def picked(seed, tick_number, thing, weights):
    x = draw(seed, tick_number, thing, 0, sum(weights))
    return [place for place in range(len(weights)) if sum(weights[:place + 1]) > x][0]


def bound_by_words(budget, quantum, weight, cost, weights):
    r = (cost + weight * quantum - 1) // (weight * quantum) + 2
    return (r * quantum * sum(weights) + len(weights) * 10000 + 100 * quantum + cost) // (budget - 10000) + 1
