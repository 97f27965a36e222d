"""Calls as the tests write them: a number, then whole numbers and rows."""

from stickysensors.desk import answers

BEGIN, PROP, SENSOR, GO, TICK, WHERE, BLAME, SINCE, FEWEST, EXPLAIN = range(10)
CHECK, SURE, VOTE, SETTLE, SETTLES, MEND, READS, STATE, WAYS, ALLOW = range(10, 20)

HELD = -1
LOOSE = -2
NOTHING = -1

FARTHEST = 10 ** 18


def one_list(calls):
    """The calls in the form of the interface."""
    numbers = []
    for call in calls:
        for part in call:
            if isinstance(part, list):
                numbers.append(len(part))
                numbers.extend(part)
            else:
                numbers.append(part)
    return numbers


def parted(given):
    """What was given back, an answer for each call."""
    found = []
    at = 0
    while at < len(given):
        end = at + 1 + given[at]
        if given[at] < 0 or end > len(given):
            raise AssertionError(f"not of the form told: {given}")
        found.append(given[at + 1:end])
        at = end
    return found


def talk(*calls):
    """The answer to each of the calls."""
    if not 1 <= len(calls) <= 120:
        raise AssertionError(f"a line has 1 to 120 calls, not {len(calls)}")
    if len([call for call in calls if call[0] == SETTLE]) > 3:
        raise AssertionError("a line has at most 3 calls that settle")
    found = parted(answers(one_list(calls)))
    if len(found) != len(calls):
        raise AssertionError(f"{len(found)} answers to {len(calls)} calls")
    return found


def last(*calls):
    return talk(*calls)[-1]


def followed(setting, calls):
    """The answers to the calls behind the setting, whose own are left out."""
    return talk(*setting, *calls)[len(setting):]


def one_prop(most, size, error, ticks):
    """A line with one prop and one sensor, gone through the ticks: (move, reading) each."""
    calls = [(BEGIN, most), (PROP, size), (SENSOR, 0, error), (GO,)]
    return calls + [(TICK, [move], [reading]) for move, reading in ticks]
