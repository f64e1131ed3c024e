"""What the tests share: calls by name, answers split up, and chance as the document's words tell it."""

from turnshares.world import answers

WORD = 2 ** 64
G = 11400714819323198485
FAR = 10 ** 18


def begin(seed=0, budget=20000, quantum=100):
    return (0, seed, budget, quantum)


def join(player, weight=1):
    return (1, player, weight)


def leave(player):
    return (2, player)


def job(player, thing=0, cost=100, sides=6):
    return (3, player, thing, cost, sides)


def drop(number):
    return (4, number)


def tick(k=1):
    return (5, k)


def queue(player):
    return (6, player)


def players():
    return (7,)


def split(row):
    """The answers one by one, without the counts ahead of them."""
    parts = []
    while row:
        count = row[0]
        parts.append(row[1:1 + count])
        assert len(parts[-1]) == count >= 1
        row = row[1 + count:]
    return parts


def ask(*calls):
    """The answers to these calls on one new object."""
    return split(answers([number for call in calls for number in call]))


def last(*calls):
    return ask(*calls)[-1]


def done(answer):
    """Of a tick's answer, the number of each job done and its player, in order."""
    return list(zip(answer[2::3], answer[3::3]))


def drawn(answer):
    return answer[4::3]


def order(answer):
    return answer[2::3]


def difference(x, y):
    return sum(2 ** place for place in range(64) if x // 2 ** place % 2 != y // 2 ** place % 2)


def stir(z):
    a = difference(z, z // 1073741824) * 13787848793156543929 % WORD
    b = difference(a, a // 134217728) * 10723151780598845931 % WORD
    return difference(b, b // 2147483648)


def raw(seed, tick_number, thing, count, attempt):
    a = stir((seed + G) % WORD)
    b = stir((a + (tick_number + 1) * G) % WORD)
    c = stir((b + (thing + 1) * G) % WORD)
    d = stir((c + (count + 1) * G) % WORD)
    return stir((d + (attempt + 1) * G) % WORD)


def draw(seed, tick_number, thing, count, sides):
    limit = WORD - WORD % sides
    for attempt in range(64):
        number = raw(seed, tick_number, thing, count, attempt)
        if number < limit:
            return number % sides
    return raw(seed, tick_number, thing, count, 64) % sides
