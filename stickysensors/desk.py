"""The desk at which a line's calls are handed in, all in one list, and answered."""

from stickysensors.asking import blame, check, explain, fewest, since, sure, told_ways, where
from stickysensors.line import Line
from stickysensors.settling import settle, settles
from stickysensors.showing import reads, state, vote
from stickysensors.telling import add_prop, add_sensor, allow, begin, go, mend, next_tick

# For each call how many numbers it's handed, and how many rows behind these.
NUMBERS_OF_CALLS = (1, 1, 2, 0, 0, 2, 1, 1, 0, 1, 1, 0, 1, 2, 1, 1, 1, 0, 1, 1)
ROWS_OF_CALLS = (0, 0, 0, 0, 2, 0, 0, 0, 0, 0, 2, 0, 0, 0, 1, 0, 0, 0, 0, 0)


# So many rows from there on, each with its length before it.
def rows_at(calls, start, count):
    rows = []
    for turn in range(count):
        end = start + 1 + calls[start]
        rows.append(calls[start + 1:end])
        start = end
    return rows


def answer_of_told(line, call, numbers, rows):
    if call == 0:
        return begin(line, numbers[0])
    if call == 1:
        return add_prop(line, numbers[0])
    if call == 2:
        return add_sensor(line, numbers[0], numbers[1])
    if call == 3:
        return go(line)
    if call == 4:
        return next_tick(line, rows[0], rows[1])
    if call == 15:
        return mend(line, numbers[0])
    return allow(line, numbers[0])


def answer_of_asked(line, call, numbers, rows):
    if call == 5:
        return where(line, numbers[0], numbers[1])
    if call == 6:
        return blame(line, numbers[0])
    if call == 7:
        return since(line, numbers[0])
    if call == 8:
        return fewest(line)
    if call == 9:
        return explain(line, numbers[0])
    if call == 10:
        return check(line, numbers[0], rows[0], rows[1])
    if call == 11:
        return sure(line)
    return told_ways(line, numbers[0])


def answer_of_settling(line, call, numbers, rows):
    if call == 13:
        return settle(line, numbers[0], numbers[1])
    return settles(line, numbers[0], rows[0])


def answer_of_shown(line, call, numbers):
    if call == 12:
        return vote(line, numbers[0])
    if call == 16:
        return reads(line, numbers[0])
    return state(line)


def answer_of(line, call, numbers, rows):
    if call < 5 or call in (15, 19):
        return answer_of_told(line, call, numbers, rows)
    if call in (12, 16, 17):
        return answer_of_shown(line, call, numbers)
    if call in (13, 14):
        return answer_of_settling(line, call, numbers, rows)
    return answer_of_asked(line, call, numbers, rows)


def answers(calls):
    line = Line()
    given = []
    at = 0
    while at < len(calls):
        call = calls[at]
        behind = at + 1 + NUMBERS_OF_CALLS[call]
        numbers = calls[at + 1:behind]
        rows = rows_at(calls, behind, ROWS_OF_CALLS[call])
        at = behind + sum([1 + len(row) for row in rows])
        answer = answer_of(line, call, numbers, rows)
        given.append(len(answer))
        given.extend(answer)
    return given
