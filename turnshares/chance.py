"""Chance: what is drawn hangs on the seed, the tick, the thing and the count, and on nothing else."""

WORD = 18446744073709551616
G = 11400714819323198485
LAST_TRY = 64


def stirred(z):
    a = (z ^ (z // 1073741824)) * 13787848793156543929 % WORD
    b = (a ^ (a // 134217728)) * 10723151780598845931 % WORD
    return b ^ (b // 2147483648)


def stirred_in(before, number):
    return stirred((before + (number + 1) * G) % WORD)


def raw_number(seed, tick, thing, count, attempt):
    # The seed is stirred with one G, just as the number 0 is stirred in.
    mixed = stirred_in(seed, 0)
    for number in (tick, thing, count, attempt):
        mixed = stirred_in(mixed, number)
    return mixed


def draw(seed, tick, thing, count, sides):
    # Raw numbers from the limit on would make the low sides likelier than the others.
    limit = WORD - WORD % sides
    for attempt in range(LAST_TRY):
        raw = raw_number(seed, tick, thing, count, attempt)
        if raw < limit:
            return raw % sides
    return raw_number(seed, tick, thing, count, LAST_TRY) % sides


def shuffled(seed, tick, thing, size):
    row = list(range(size))
    for place in range(size - 1, 0, -1):
        other = draw(seed, tick, thing, place, place + 1)
        moved = row[place]
        row[place] = row[other]
        row[other] = moved
    return row


def picked(seed, tick, thing, weights):
    left = draw(seed, tick, thing, 0, sum(weights))
    place = 0
    # What is left is below all weights from here on together, so that the row's end is never passed.
    while left >= weights[place]:
        left -= weights[place]
        place += 1
    return place
