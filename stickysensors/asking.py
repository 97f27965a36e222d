"""The calls by which a line is asked what can be."""

from stickysensors.courses import has_course, least_course, members, met, passed
from stickysensors.faults import FINE, LATENESSES, STUCK, positions_told, sticking_ticks
from stickysensors.line import NOT_SO, OUT_OF_RANGE, WRONG_TIME
from stickysensors.ways import faults_in, fewest_of_each, ways_left


def where(line, number, tick):
    if not (0 <= number < len(line.props) and 0 <= tick <= line.tick):
        return [OUT_OF_RANGE]
    if not line.begun:
        return [WRONG_TIME]
    positions = 0
    for way in ways_left(line, number):
        positions = positions | passed(way.allowed, line.props[number])[tick]
    return [0] + members(positions)


# The sensor's faults in the ways that are left, stuck from whichever tick as one.
def faults_left(line, sensor):
    return [min(way.faults[sensor.place], STUCK) for way in ways_left(line, sensor.prop)]


def blame(line, number):
    if not 0 <= number < len(line.sensors):
        return [OUT_OF_RANGE]
    if not line.begun:
        return [WRONG_TIME]
    left = faults_left(line, line.sensors[number])
    return [0] + [1 if fault in left else 0 for fault in [FINE, STUCK] + list(LATENESSES)]


def since(line, number):
    if not 0 <= number < len(line.sensors):
        return [OUT_OF_RANGE]
    if not line.begun:
        return [WRONG_TIME]
    sensor = line.sensors[number]
    prop = line.props[sensor.prop]
    stuck = [way for way in ways_left(line, sensor.prop) if way.faults[sensor.place] >= STUCK]
    answer = [0]
    for tick in sticking_ticks(sensor):
        # What the way asks for stays: stuck from a later tick only asks for more.
        told = positions_told(sensor, STUCK + tick, prop.size)
        if any([has_course(met(way.allowed, told), prop) for way in stuck]):
            answer.append(tick)
    return answer


def fewest(line):
    if not line.begun:
        return [WRONG_TIME]
    each = fewest_of_each(line)
    if not each:
        return [NOT_SO]
    return [0, sum(each)] + each


def explain(line, number):
    if not 0 <= number < len(line.props):
        return [OUT_OF_RANGE]
    if not line.begun:
        return [WRONG_TIME]
    ways = ways_left(line, number)
    if not ways:
        return [NOT_SO]
    # The first of those that are equal is taken.
    way = min(ways, key=faults_in)
    return [0] + way.faults + least_course(way.allowed, line.props[number])
