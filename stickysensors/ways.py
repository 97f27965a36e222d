"""The ways of the props: those that can be, the fewest faults, the ways that are left."""

from stickysensors.courses import anywhere, has_course, met
from stickysensors.faults import faults_of, how_many_faults, positions_told


# What each of a prop's sensors is, and for each tick the positions with which that goes.
class Way:
    def __init__(self, faults, allowed):
        self.faults = faults
        self.allowed = allowed


def faults_in(way):
    return how_many_faults(way.faults)


# For each tick the positions that go with what the prop's sensors read, if they have these faults.
def allowed_by(prop, faults):
    allowed = anywhere(prop)
    for sensor, fault in zip(prop.sensors, faults):
        allowed = met(allowed, positions_told(sensor, fault, prop.size))
    return allowed


# The ways with the prop's next sensor, of those that can be with at most so many faults.
def longer_ways(ways, prop, sensor, most):
    choices = [(fault, positions_told(sensor, fault, prop.size)) for fault in faults_of(sensor)]
    longer = []
    for way in ways:
        for fault, told in choices:
            added = Way(way.faults + [fault], met(way.allowed, told))
            if faults_in(added) <= most and has_course(added.allowed, prop):
                longer.append(added)
    return longer


# The prop's ways that can be with at most so many faults, in order.
def possible_ways(prop, most):
    ways = [Way([], anywhere(prop))]
    # One sensor more only asks for more: what can't be so far needn't be gone on with.
    for sensor in prop.sensors:
        ways = longer_ways(ways, prop, sensor, most)
    return ways


def possible_ways_of_each(line):
    return [possible_ways(prop, line.most) for prop in line.props]


# Each prop's fewest faults, of its ways that can be; empty where nothing can be.
def fewest_in_each(possible, most):
    if not all([len(ways) > 0 for ways in possible]):
        return []
    fewest = [min([faults_in(way) for way in ways]) for ways in possible]
    return fewest if sum(fewest) <= most else []


def fewest_of_each(line):
    return fewest_in_each(possible_ways_of_each(line), line.most)


# For each prop its ways that are left, in order; empty where nothing can be.
def ways_left_of_each(line):
    possible = possible_ways_of_each(line)
    fewest = fewest_in_each(possible, line.most)
    left = []
    for ways, count in zip(possible, fewest):
        others = sum(fewest) - count
        left.append([way for way in ways if faults_in(way) + others <= line.most])
    return left


# The ways of the prop of this number that are left, in order.
def ways_left(line, number):
    left = ways_left_of_each(line)
    return left[number] if left else []
