"""The calls by which a line is told what there is and what was read."""

from stickysensors.line import GREATEST_READING, GREATEST_SIZE, LAST_TICK, LOOSE, NOTHING, Prop, Sensor
from stickysensors.line import NO_PLACE, NOT_SO, OUT_OF_RANGE, WRONG_TIME
from stickysensors.ways import fewest_of_each

MOST_FAULTS = 2
LEAST_SIZE = 2
GREATEST_ERROR = 3
MOST_PROPS = 4
MOST_SENSORS = 8
MOST_SENSORS_OF_PROP = 4


def begin(line, most):
    if not 0 <= most <= MOST_FAULTS:
        return [OUT_OF_RANGE]
    line.restart(most)
    return [0]


def add_prop(line, size):
    if not LEAST_SIZE <= size <= GREATEST_SIZE:
        return [OUT_OF_RANGE]
    if line.begun:
        return [WRONG_TIME]
    if len(line.props) == MOST_PROPS:
        return [NO_PLACE]
    line.props.append(Prop(size))
    return [0, len(line.props) - 1]


def add_sensor(line, number, error):
    if not (line.has_prop(number) and 0 <= error <= GREATEST_ERROR):
        return [OUT_OF_RANGE]
    if line.begun:
        return [WRONG_TIME]
    prop = line.props[number]
    if len(line.sensors) == MOST_SENSORS or len(prop.sensors) == MOST_SENSORS_OF_PROP:
        return [NO_PLACE]
    sensor = Sensor(number, len(prop.sensors), error)
    prop.sensors.append(sensor)
    line.sensors.append(sensor)
    return [0, len(line.sensors) - 1]


def go(line):
    if line.begun:
        return [WRONG_TIME]
    if not line.props:
        return [NOT_SO]
    line.begun = True
    return [0]


def moves_in_range(line, moves):
    if len(moves) != len(line.props):
        return False
    return all([LOOSE <= move < prop.size for move, prop in zip(moves, line.props)])


def readings_in_range(line, readings):
    if len(readings) != len(line.sensors):
        return False
    return all([NOTHING <= reading <= GREATEST_READING for reading in readings])


def next_tick(line, moves, readings):
    if not (moves_in_range(line, moves) and readings_in_range(line, readings)):
        return [OUT_OF_RANGE]
    if not line.begun:
        return [WRONG_TIME]
    if line.tick == LAST_TICK:
        return [NO_PLACE]
    line.tick += 1
    for prop, move in zip(line.props, moves):
        prop.moves.append(move)
    for sensor, reading in zip(line.sensors, readings):
        sensor.readings.append(reading)
    return [0, line.tick, 1 if fewest_of_each(line) else 0]


def mend(line, number):
    if not line.has_sensor(number):
        return [OUT_OF_RANGE]
    if not line.begun:
        return [WRONG_TIME]
    sensor = line.sensors[number]
    sensor.first = line.tick + 1
    sensor.readings = [NOTHING for reading in sensor.readings]
    return [0]


def allow(line, most):
    if not 0 <= most <= MOST_FAULTS:
        return [OUT_OF_RANGE]
    line.most = most
    return [0]
