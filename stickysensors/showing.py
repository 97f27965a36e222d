"""The calls by which a line is asked what it was told and what was read."""

from stickysensors.line import NOT_SO, NOTHING, OUT_OF_RANGE, WRONG_TIME


def vote(line, number):
    if not line.has_prop(number):
        return [OUT_OF_RANGE]
    if not line.begun:
        return [WRONG_TIME]
    readings = [sensor.readings[line.tick] for sensor in line.props[number].sensors]
    ordered = sorted([reading for reading in readings if reading != NOTHING])
    if not ordered:
        return [NOT_SO]
    middle = ordered[(len(ordered) - 1) // 2]
    return [0, middle, len(ordered), ordered.count(middle)]


def reads(line, number):
    if not line.has_sensor(number):
        return [OUT_OF_RANGE]
    if not line.begun:
        return [WRONG_TIME]
    sensor = line.sensors[number]
    return [0, sensor.first] + sensor.readings[sensor.first:]


def state(line):
    return [0, len(line.props), len(line.sensors), 1 if line.begun else 0, line.tick, line.most]
