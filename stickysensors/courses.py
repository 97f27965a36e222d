"""Courses of a prop, where for each tick it's told which positions are allowed.

A set of positions is one whole number, in which the bit of each position
that's in it is set: so two sets are met, or put together, in one step.
"""

from stickysensors.line import HELD, LOOSE


def everywhere(size):
    return (1 << size) - 1


# All that is apart from the reading by at most the error, positions or beyond them.
def agreeing(reading, error):
    return everywhere(reading + error + 1) - everywhere(max(reading - error, 0))


def members(positions):
    return [place for place in range(positions.bit_length()) if (positions >> place) & 1]


# For each tick up to now all positions.
def anywhere(prop):
    return [everywhere(prop.size) for move in prop.moves]


# For each tick the positions that are allowed in both.
def met(allowed, told):
    return [old & new for old, new in zip(allowed, told)]


# Where a prop of this size that was at one of these positions can be a tick on.
def entered(positions, move, size):
    if positions == 0 or move == HELD:
        return positions
    if move == LOOSE:
        return everywhere(size)
    return 1 << move


# For each tick the positions at which a course up to there can end.
def reached(allowed, prop):
    found = [allowed[0]]
    for tick in range(1, len(allowed)):
        onward = entered(found[tick - 1], prop.moves[tick], prop.size)
        found.append(onward & allowed[tick])
    return found


def has_course(allowed, prop):
    return reached(allowed, prop)[-1] != 0


# Whether the row of positions is a course, at an allowed position at each tick.
def is_course(row, allowed, prop):
    if len(row) != len(allowed):
        return False
    return has_course(met(allowed, [1 << place for place in row]), prop)


# For each tick the positions that some whole course has there, if there is a course.
def passed(allowed, prop):
    found = reached(allowed, prop)
    for tick in range(len(allowed) - 1, 0, -1):
        # Only a held prop ties a position to the one behind it; from any other
        # position that was reached, loose or to v, a course goes on.
        if prop.moves[tick] == HELD:
            found[tick - 1] = found[tick]
    return found


# The course with the least last position, then the least one before it and so on.
def least_course(allowed, prop):
    found = reached(allowed, prop)
    course = [members(found[-1])[0]]
    for tick in range(len(allowed) - 1, 0, -1):
        if prop.moves[tick] == HELD:
            course.append(course[-1])
        else:
            course.append(members(found[tick - 1])[0])
    course.reverse()
    return course
