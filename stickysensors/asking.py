"""The calls by which a line is asked what can be."""

from stickysensors.courses import has_course, is_course, least_course, members, met, passed
from stickysensors.faults import FINE, LATENESSES, STUCK, positions_told, sticking_ticks
from stickysensors.faults import can_have, how_many_faults, is_fault
from stickysensors.line import GREATEST_SIZE, NOT_SO, OUT_OF_RANGE, WRONG_TIME
from stickysensors.ways import allowed_by, faults_in, fewest_of_each, ways_left, ways_left_of_each


def where(line, number, tick):
    if not (line.has_prop(number) and 0 <= tick <= line.tick):
        return [OUT_OF_RANGE]
    if not line.begun:
        return [WRONG_TIME]
    positions = 0
    for way in ways_left(line, number):
        positions = positions | passed(way.allowed, line.props[number])[tick]
    return [0] + members(positions)


# The sensor's faults in the ways that are left, stuck from whichever tick as one.
def faults_left(line, sensor):
    return [min(way.faults[sensor.place], STUCK) for way in ways_left(line, sensor.prop)]


def blame(line, number):
    if not line.has_sensor(number):
        return [OUT_OF_RANGE]
    if not line.begun:
        return [WRONG_TIME]
    left = faults_left(line, line.sensors[number])
    return [0] + [1 if fault in left else 0 for fault in [FINE, STUCK] + list(LATENESSES)]


def since(line, number):
    if not line.has_sensor(number):
        return [OUT_OF_RANGE]
    if not line.begun:
        return [WRONG_TIME]
    sensor = line.sensors[number]
    prop = line.props[sensor.prop]
    stuck = [way for way in ways_left(line, sensor.prop) if way.faults[sensor.place] >= STUCK]
    answer = [0]
    for tick in sticking_ticks(sensor):
        # What the way asks for stays: stuck from a later tick only asks for more.
        told = positions_told(sensor, STUCK + tick, prop.size)
        if any([has_course(met(way.allowed, told), prop) for way in stuck]):
            answer.append(tick)
    return answer


def fewest(line):
    if not line.begun:
        return [WRONG_TIME]
    each = fewest_of_each(line)
    if not each:
        return [NOT_SO]
    return [0, sum(each)] + each


def explain(line, number):
    if not line.has_prop(number):
        return [OUT_OF_RANGE]
    if not line.begun:
        return [WRONG_TIME]
    ways = ways_left(line, number)
    if not ways:
        return [NOT_SO]
    # The first of those that are equal is taken.
    way = min(ways, key=faults_in)
    return [0] + way.faults + least_course(way.allowed, line.props[number])


# Whether all that the prop's sensors read goes with these faults and this course.
def goes_with_all(prop, faults, course):
    if len(faults) != len(prop.sensors):
        return False
    if not all([can_have(sensor, fault) for sensor, fault in zip(prop.sensors, faults)]):
        return False
    return is_course(course, allowed_by(prop, faults), prop)


def check(line, number, faults, course):
    in_range = all([is_fault(fault) for fault in faults]) and all([0 <= place < GREATEST_SIZE for place in course])
    if not (in_range and line.has_prop(number)):
        return [OUT_OF_RANGE]
    if not line.begun:
        return [WRONG_TIME]
    goes = goes_with_all(line.props[number], faults, course)
    return [0, 1 if goes else 0, how_many_faults(faults)]


def sure(line):
    if not line.begun:
        return [WRONG_TIME]
    left = ways_left_of_each(line)
    if not left:
        return [NOT_SO]
    answer = [0]
    for number, sensor in enumerate(line.sensors):
        if FINE not in [way.faults[sensor.place] for way in left[sensor.prop]]:
            answer.append(number)
    return answer


def told_ways(line, number):
    if not line.has_prop(number):
        return [OUT_OF_RANGE]
    if not line.begun:
        return [WRONG_TIME]
    left = ways_left(line, number)
    answer = [0, len(left)]
    for way in left:
        answer.extend(way.faults)
    return answer
