"""The document's words as a search over all courses, all faults and all told moves, plainly and slowly."""

from itertools import product

from talk import HELD, LOOSE, NOTHING


ANY_READING = frozenset(range(1001))


class Seen:
    """What a line was told: sizes, (prop, error) of each sensor, moves and readings of each tick, and
    the first tick of each sensor (all 0 where none was mended)."""

    def __init__(self, most, sizes, sensors, moves, readings, firsts=None):
        self.most = most
        self.sizes = sizes
        self.sensors = sensors
        self.moves = moves
        self.readings = readings
        self.firsts = firsts or [0] * len(sensors)
        self.now = len(moves)

    def sensors_of(self, prop):
        return [number for number, sensor in enumerate(self.sensors) if sensor[0] == prop]

    def reading(self, sensor, tick):
        """What counts of what the sensor read at the tick."""
        if tick == 0 or tick < self.firsts[sensor]:
            return NOTHING
        return self.readings[tick - 1][sensor]


def is_course(seen, prop, course):
    for tick in range(1, seen.now + 1):
        move = seen.moves[tick - 1][prop]
        if move == HELD and course[tick] != course[tick - 1]:
            return False
        if move not in (HELD, LOOSE) and course[tick] != move:
            return False
    return True


def courses(seen, prop):
    every = product(range(seen.sizes[prop]), repeat=seen.now + 1)
    return [course for course in every if is_course(seen, prop, course)]


def read_from(seen, sensor, start):
    return {seen.reading(sensor, tick) for tick in range(start, seen.now + 1)} - {NOTHING}


def can_be_stuck(seen, sensor, start):
    return seen.firsts[sensor] <= start <= seen.now and len(read_from(seen, sensor, start)) <= 1


def agrees(seen, sensor, tick, position):
    return abs(seen.reading(sensor, tick) - position) <= seen.sensors[sensor][1]


def goes_with(seen, sensor, fault, course):
    """Whether all that the sensor read goes with the course, if it has this fault."""
    for tick in range(seen.now + 1):
        if seen.reading(sensor, tick) == NOTHING:
            continue
        if fault == 0 and not agrees(seen, sensor, tick, course[tick]):
            return False
        if fault in (1, 2, 3) and tick - fault >= seen.firsts[sensor]:
            if not agrees(seen, sensor, tick, course[tick - fault]):
                return False
        if fault >= 100 and tick < fault - 100 and not agrees(seen, sensor, tick, course[tick]):
            return False
    return True


def stuck_faults(seen, sensor):
    return [100 + start for start in range(seen.now + 1) if can_be_stuck(seen, sensor, start)]


def fitting(seen, prop, faults):
    """All courses of the prop that go with all its sensors' readings."""
    return [
        course for course in courses(seen, prop)
        if all(goes_with(seen, sensor, fault, course) for sensor, fault in zip(seen.sensors_of(prop), faults))
    ]


def at_fault(faults):
    return sum(fault != 0 for fault in faults)


class Found:
    """All ways of all props that can be, with their courses, and those that are left."""

    def __init__(self, seen):
        self.seen = seen
        self.possible = [self.possible_of(prop) for prop in range(len(seen.sizes))]
        self.fewest = [
            min((at_fault(way) for way in ways if at_fault(way) <= seen.most), default=None)
            for ways in self.possible
        ]
        self.something = None not in self.fewest and sum(self.fewest) <= seen.most
        self.left = [self.left_of(prop) for prop in range(len(seen.sizes))]

    def possible_of(self, prop):
        choices = []
        for sensor in self.seen.sensors_of(prop):
            choices.append([0] + stuck_faults(self.seen, sensor)[:1] + [1, 2, 3])
        going = {way: fitting(self.seen, prop, way) for way in product(*choices)}
        return {way: found for way, found in going.items() if found}

    def left_of(self, prop):
        if not self.something:
            return []
        most = self.seen.most - (sum(self.fewest) - self.fewest[prop])
        return [way for way in self.possible[prop] if at_fault(way) <= most]

    def where(self, prop, tick):
        places = {course[tick] for way in self.left[prop] for course in self.possible[prop][way]}
        return [0] + sorted(places)

    def faults_left(self, sensor):
        prop = self.seen.sensors[sensor][0]
        place = self.seen.sensors_of(prop).index(sensor)
        return [(way, way[place], place, prop) for way in self.left[prop]]

    def blame(self, sensor):
        faults = [fault for way, fault, place, prop in self.faults_left(sensor)]
        kinds = [0 in faults, any(fault >= 100 for fault in faults), 1 in faults, 2 in faults, 3 in faults]
        return [0] + [int(kind) for kind in kinds]

    def since(self, sensor):
        ticks = []
        for other in stuck_faults(self.seen, sensor):
            for way, fault, place, prop in self.faults_left(sensor):
                changed = way[:place] + (other,) + way[place + 1:]
                if fault >= 100 and fitting(self.seen, prop, changed):
                    ticks.append(other - 100)
                    break
        return [0] + ticks

    def fewest_told(self):
        return [0, sum(self.fewest)] + self.fewest if self.something else [-4]

    def explain(self, prop):
        if not self.something:
            return [-4]
        fewest = min(at_fault(way) for way in self.left[prop])
        way = [way for way in self.left[prop] if at_fault(way) == fewest][0]
        course = min(self.possible[prop][way], key=lambda course: course[::-1])
        return [0] + list(way) + list(course)

    def ways(self, prop):
        return [0, len(self.left[prop])] + [fault for way in self.left[prop] for fault in way]

    def sure(self):
        if not self.something:
            return [-4]
        sensors = range(len(self.seen.sensors))
        return [0] + [sensor for sensor in sensors if all(fault for way, fault, *rest in self.faults_left(sensor))]

    def may_read(self, sensor, prop, way, fault, tick, told):
        """The numbers that the sensor of this fault may read at a tick behind now; told has each such
        tick's position."""
        if fault >= 100:
            return read_from(self.seen, sensor, fault - 100) or ANY_READING
        if tick - fault < self.seen.firsts[sensor]:
            return ANY_READING
        places = {course[tick - fault] for course in self.possible[prop][way]} if tick - fault <= self.seen.now \
            else {told[tick - fault]}
        error = self.seen.sensors[sensor][1]
        return {number for number in range(12) for place in places if abs(number - place) <= error}

    def alike(self, prop, one, other, told):
        for tick in told:
            for sensor, fault, fault_there in zip(self.seen.sensors_of(prop), one, other):
                here = self.may_read(sensor, prop, one, fault, tick, told)
                if not here & self.may_read(sensor, prop, other, fault_there, tick, told):
                    return False
        return True

    def settled(self, sensor, moves):
        told = {self.seen.now + 1 + turn: place for turn, place in enumerate(moves)}
        left = self.faults_left(sensor)
        prop = self.seen.sensors[sensor][0]
        fine = [way for way, fault, *rest in left if fault == 0]
        faulty = [way for way, fault, *rest in left if fault != 0]
        return not any(self.alike(prop, one, other, told) for one in fine for other in faulty)

    def settles(self, sensor, moves):
        return [0, int(self.settled(sensor, moves))]

    def settle(self, sensor, most):
        size = self.seen.sizes[self.seen.sensors[sensor][0]]
        for count in range(most + 1):
            for moves in product(range(size), repeat=count):
                if self.settled(sensor, moves):
                    return [0, 1] + list(moves)
        return [0, 0]


def checked(seen, prop, faults, course):
    """The answer to a check of this row of faults and this row of positions."""
    sensors = seen.sensors_of(prop)
    goes = len(faults) == len(sensors) and len(course) == seen.now + 1
    goes = goes and all(0 <= place < seen.sizes[prop] for place in course) and is_course(seen, prop, course)
    for sensor, fault in zip(sensors, faults):
        goes = goes and (fault < 100 or can_be_stuck(seen, sensor, fault - 100))
        goes = goes and goes_with(seen, sensor, fault, course)
    return [0, int(goes), at_fault(faults)]


def explained(seen):
    """For each prop, all positions tick by tick that a course has with which, and with faults of all
    sensors together that aren't more than the most (stuck from whichever tick), all readings go."""
    ways = []
    for prop in range(len(seen.sizes)):
        choices = [[0, 1, 2, 3] + stuck_faults(seen, sensor) for sensor in seen.sensors_of(prop)]
        every = [faults for faults in product(*choices) if at_fault(faults) <= seen.most]
        going = [(at_fault(faults), fitting(seen, prop, faults)) for faults in every]
        ways.append([(count, found) for count, found in going if found])
    places = [[set() for tick in range(seen.now + 1)] for prop in ways]
    for together in product(*ways):
        if sum(count for count, found in together) <= seen.most:
            for prop, (count, found) in enumerate(together):
                for tick in range(seen.now + 1):
                    places[prop][tick].update(course[tick] for course in found)
    return places
