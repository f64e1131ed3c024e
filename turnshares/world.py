"""A list of calls in, a list of answers out."""

from turnshares.calls import answer
from turnshares.turns import Session

# How many numbers stand behind the number of each call; of pick the row's length is the last of them.
LENGTHS = (3, 2, 1, 4, 1, 1, 1, 0, 2, 4, 3, 3, 3, 1, 1, 0)
PICK = 12


def end_of_call(calls, start):
    call = calls[start]
    end = start + 1 + LENGTHS[call]
    return end + calls[end - 1] if call == PICK else end


def answers(calls):
    session = Session()
    given = []
    start = 0
    while start < len(calls):
        end = end_of_call(calls, start)
        row = answer(session, calls[start], calls[start + 1:end])
        given.append(len(row))
        given.extend(row)
        start = end
    return given
