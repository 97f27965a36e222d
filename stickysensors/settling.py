"""The calls by which it's asked which told moves settle a sensor.

A set of readings is one whole number, as a set of positions is: with the bit
of each reading that's in it.
"""

from stickysensors.courses import agreeing, everywhere, members, passed
from stickysensors.faults import FINE, STUCK
from stickysensors.line import GREATEST_READING, NOTHING, OUT_OF_RANGE, WRONG_TIME
from stickysensors.ways import Way, ways_left

MOST_MOVES_SOUGHT = 2
MOST_MOVES_HANDED = 6


def any_reading():
    return everywhere(GREATEST_READING + 1)


def agreeing_with_some(positions, error):
    readings = 0
    for place in members(positions):
        readings = readings | agreeing(place, error)
    return readings


# What a sensor goes on reading that's stuck from the first tick from which it can be.
def stuck_readings(sensor, start):
    read = [reading for reading in sensor.readings[start:] if reading != NOTHING]
    return 1 << read[0] if read else any_reading()


# What the sensor may read at the tick of this told move, the first one being 0, in a way in
# which it has this fault and which allows the prop just where its courses pass.
def may_read(sensor, fault, allowed, moves, turn):
    if fault >= STUCK:
        return stuck_readings(sensor, fault - STUCK)
    # A fine sensor tells of its own tick: it's late by 0.
    told = turn - fault
    if told >= 0:
        return agreeing(moves[told], sensor.error)
    tick = len(allowed) + told
    if tick < sensor.first:
        return any_reading()
    return agreeing_with_some(allowed[tick], sensor.error)


# For each of the told moves, and for each of the prop's sensors, what it may read then in the way.
def readings_in(way, prop, moves):
    found = []
    for turn in range(len(moves)):
        for sensor, fault in zip(prop.sensors, way.faults):
            found.append(may_read(sensor, fault, way.allowed, moves, turn))
    return found


def are_alike(readings, others):
    for here, there in zip(readings, others):
        if here & there == 0:
            return False
    return True


def is_alike_to_one_of(readings, rows):
    for others in rows:
        if are_alike(readings, others):
            return True
    return False


# The ways that are left of a sensor's prop, by whether the sensor is fine in them.
class Sides:
    def __init__(self, line, sensor):
        self.prop = line.props[sensor.prop]
        self.fine = []
        self.faulty = []
        for way in ways_left(line, sensor.prop):
            narrowed = Way(way.faults, passed(way.allowed, self.prop))
            if way.faults[sensor.place] == FINE:
                self.fine.append(narrowed)
            else:
                self.faulty.append(narrowed)

    # Whether by these told moves no way of the one side is alike to one of the other.
    def settled_by(self, moves):
        faulty = [readings_in(way, self.prop, moves) for way in self.faulty]
        for way in self.fine:
            if is_alike_to_one_of(readings_in(way, self.prop, moves), faulty):
                return False
        return True


# The rows with each position behind each of them, in order.
def longer_rows(rows, size):
    longer = []
    for row in rows:
        for place in range(size):
            longer.append(row + [place])
    return longer


def settle(line, number, count):
    if not (line.has_sensor(number) and 0 <= count <= MOST_MOVES_SOUGHT):
        return [OUT_OF_RANGE]
    if not line.begun:
        return [WRONG_TIME]
    sides = Sides(line, line.sensors[number])
    rows = [[]]
    for turn in range(count + 1):
        for moves in rows:
            if sides.settled_by(moves):
                return [0, 1] + moves
        rows = longer_rows(rows, sides.prop.size)
    return [0, 0]


def positions_in_range(line, number, row):
    if not line.has_sensor(number) or len(row) > MOST_MOVES_HANDED:
        return False
    prop = line.props[line.sensors[number].prop]
    return all([0 <= place < prop.size for place in row])


def settles(line, number, row):
    if not positions_in_range(line, number, row):
        return [OUT_OF_RANGE]
    if not line.begun:
        return [WRONG_TIME]
    sides = Sides(line, line.sensors[number])
    return [0, 1 if sides.settled_by(row) else 0]
