"""The document's words as a search over all courses and all faults, told plainly and slowly."""

from itertools import product

from talk import HELD, LOOSE, NOTHING


class Seen:
    """What a line was told: sizes, (prop, error) of each sensor, moves and readings of each tick."""

    def __init__(self, most, sizes, sensors, moves, readings):
        self.most = most
        self.sizes = sizes
        self.sensors = sensors
        self.moves = moves
        self.readings = readings
        self.now = len(moves)

    def sensors_of(self, prop):
        return [number for number, sensor in enumerate(self.sensors) if sensor[0] == prop]

    def reading(self, sensor, tick):
        return NOTHING if tick == 0 else self.readings[tick - 1][sensor]


def is_course(seen, prop, course):
    for tick in range(1, seen.now + 1):
        move = seen.moves[tick - 1][prop]
        if move == HELD and course[tick] != course[tick - 1]:
            return False
        if move not in (HELD, LOOSE) and course[tick] != move:
            return False
    return True


def courses(seen, prop):
    every = product(range(seen.sizes[prop]), repeat=seen.now + 1)
    return [course for course in every if is_course(seen, prop, course)]


def can_be_stuck(seen, sensor, start):
    readings = {seen.reading(sensor, tick) for tick in range(start, seen.now + 1)}
    return len(readings - {NOTHING}) <= 1


def agrees(seen, sensor, tick, position):
    return abs(seen.reading(sensor, tick) - position) <= seen.sensors[sensor][1]


def goes_with(seen, sensor, fault, course):
    """Whether all that the sensor read goes with the course, if it has this fault."""
    for tick in range(seen.now + 1):
        if seen.reading(sensor, tick) == NOTHING:
            continue
        if fault == 0 and not agrees(seen, sensor, tick, course[tick]):
            return False
        if fault in (1, 2, 3) and tick - fault >= 0 and not agrees(seen, sensor, tick, course[tick - fault]):
            return False
        if fault >= 100 and tick < fault - 100 and not agrees(seen, sensor, tick, course[tick]):
            return False
    return True


def stuck_faults(seen, sensor):
    return [100 + start for start in range(seen.now + 1) if can_be_stuck(seen, sensor, start)]


def fitting(seen, prop, faults):
    """All courses of the prop that go with all its sensors' readings."""
    return [
        course for course in courses(seen, prop)
        if all(goes_with(seen, sensor, fault, course) for sensor, fault in zip(seen.sensors_of(prop), faults))
    ]


def at_fault(faults):
    return sum(fault != 0 for fault in faults)


class Found:
    """All ways of all props that can be, with their courses, and those that are left."""

    def __init__(self, seen):
        self.seen = seen
        self.possible = [self.possible_of(prop) for prop in range(len(seen.sizes))]
        self.fewest = [
            min((at_fault(way) for way in ways if at_fault(way) <= seen.most), default=None)
            for ways in self.possible
        ]
        self.something = None not in self.fewest and sum(self.fewest) <= seen.most
        self.left = [self.left_of(prop) for prop in range(len(seen.sizes))]

    def possible_of(self, prop):
        choices = []
        for sensor in self.seen.sensors_of(prop):
            choices.append([0] + stuck_faults(self.seen, sensor)[:1] + [1, 2, 3])
        going = {way: fitting(self.seen, prop, way) for way in product(*choices)}
        return {way: found for way, found in going.items() if found}

    def left_of(self, prop):
        if not self.something:
            return []
        most = self.seen.most - (sum(self.fewest) - self.fewest[prop])
        return [way for way in self.possible[prop] if at_fault(way) <= most]

    def where(self, prop, tick):
        places = {course[tick] for way in self.left[prop] for course in self.possible[prop][way]}
        return [0] + sorted(places)

    def faults_left(self, sensor):
        prop = self.seen.sensors[sensor][0]
        place = self.seen.sensors_of(prop).index(sensor)
        return [(way, way[place], place, prop) for way in self.left[prop]]

    def blame(self, sensor):
        faults = [fault for way, fault, place, prop in self.faults_left(sensor)]
        kinds = [0 in faults, any(fault >= 100 for fault in faults), 1 in faults, 2 in faults, 3 in faults]
        return [0] + [int(kind) for kind in kinds]

    def since(self, sensor):
        ticks = []
        for other in stuck_faults(self.seen, sensor):
            for way, fault, place, prop in self.faults_left(sensor):
                changed = way[:place] + (other,) + way[place + 1:]
                if fault >= 100 and fitting(self.seen, prop, changed):
                    ticks.append(other - 100)
                    break
        return [0] + ticks

    def fewest_told(self):
        return [0, sum(self.fewest)] + self.fewest if self.something else [-4]

    def explain(self, prop):
        if not self.something:
            return [-4]
        fewest = min(at_fault(way) for way in self.left[prop])
        way = [way for way in self.left[prop] if at_fault(way) == fewest][0]
        course = min(self.possible[prop][way], key=lambda course: course[::-1])
        return [0] + list(way) + list(course)


def explained(seen):
    """For each prop, all positions tick by tick that a course has with which, and with faults of all
    sensors together that aren't more than the most (stuck from whichever tick), all readings go."""
    ways = []
    for prop in range(len(seen.sizes)):
        choices = [[0, 1, 2, 3] + stuck_faults(seen, sensor) for sensor in seen.sensors_of(prop)]
        every = [faults for faults in product(*choices) if at_fault(faults) <= seen.most]
        going = [(at_fault(faults), fitting(seen, prop, faults)) for faults in every]
        ways.append([(count, found) for count, found in going if found])
    places = [[set() for tick in range(seen.now + 1)] for prop in ways]
    for together in product(*ways):
        if sum(count for count, found in together) <= seen.most:
            for prop, (count, found) in enumerate(together):
                for tick in range(seen.now + 1):
                    places[prop][tick].update(course[tick] for course in found)
    return places
