"""Small lines for the searches: how they're told, and how they're drawn from courses and faults."""

from plain_search import Seen
from talk import ALLOW, BEGIN, GO, HELD, LOOSE, MEND, NOTHING, PROP, SENSOR, TICK

# Of each prop its size and the errors of its sensors.
SHAPES = (
    [(2, [0])],
    [(3, [0])],
    [(4, [1])],
    [(2, [0, 0])],
    [(3, [0, 1])],
    [(2, [0, 0, 1])],
    [(3, [0, 0, 1])],
    [(2, [0, 0, 0, 0])],
    [(2, [0]), (3, [0])],
    [(2, [0, 0]), (3, [1])],
    [(3, []), (2, [0, 0])],
    [(2, [0]), (2, [0]), (2, [0])],
    [(2, [1]), (2, [0, 0]), (2, [])],
    [(5, [3, 2])],
)


def mended(seen, tick):
    return [(MEND, sensor) for sensor, first in enumerate(seen.firsts) if first == tick + 1]


def told(seen):
    calls = [(BEGIN, seen.most)] + [(PROP, size) for size in seen.sizes]
    calls += [(SENSOR, prop, error) for prop, error in seen.sensors] + [(GO,)] + mended(seen, 0)
    for tick in range(seen.now):
        calls += [(TICK, seen.moves[tick], seen.readings[tick])] + mended(seen, tick + 1)
    return calls


def told_with_allow(seen, place):
    """The same, but for the most, which is another at first and told at this place."""
    calls = told(seen)
    return [(BEGIN, 2 - seen.most if seen.most != 1 else 0)] + calls[1:place] + [(ALLOW, seen.most)] + calls[place:]


def drawn_sensor_reads(chance, course, error, size, fault, first):
    """What a sensor of this fault and this first tick reads from tick 1 on while the prop goes through
    the course; what doesn't count, or says nothing, is any."""
    reads = []
    number = chance.randrange(size + 1)
    for tick in range(1, len(course)):
        reading = chance.randrange(size)
        if fault < 100 and tick - fault >= first:
            reading = max(course[tick - fault] + chance.randint(-error, error), 0)
        if fault >= 100 and first <= tick < fault - 100:
            reading = max(course[tick] + chance.randint(-error, error), 0)
        if fault >= 100 and tick >= fault - 100:
            reading = number
        reads.append(NOTHING if chance.random() < 0.2 else reading)
    return reads


def drawn_course(chance, size, moves):
    course = [chance.randrange(size)]
    for move in moves:
        drawn = chance.randrange(size)
        course.append(course[-1] if move == HELD else drawn if move == LOOSE else move)
    return course


def drawn_moves(chance, size, ticks):
    return [chance.choice([HELD, LOOSE] + list(range(size))) for tick in range(ticks)]


def drawn(chance, shapes, ticks, most, faulty, mends=0.0):
    """A line of these props, of whose sensors so many are faulty, and about this share was mended;
    and the props' courses."""
    sizes = [size for size, errors in shapes]
    sensors = [(prop, error) for prop, shape in enumerate(shapes) for error in shape[1]]
    chance.shuffle(sensors)
    moves = [drawn_moves(chance, size, ticks) for size in sizes]
    courses = [drawn_course(chance, size, row) for size, row in zip(sizes, moves)]
    bad = chance.sample(range(len(sensors)), min(faulty, len(sensors)))
    firsts = [chance.randint(1, ticks + 1) if chance.random() < mends else 0 for sensor in sensors]
    reads = []
    for number, (prop, error) in enumerate(sensors):
        faults = [1, 2, 3] + [100 + tick for tick in range(firsts[number], ticks + 1)]
        fault = chance.choice(faults) if number in bad else 0
        reads.append(drawn_sensor_reads(chance, courses[prop], error, sizes[prop], fault, firsts[number]))
    moves = [list(row) for row in zip(*moves)]
    readings = [[row[tick] for row in reads] for tick in range(ticks)]
    return Seen(most, sizes, sensors, moves, readings, firsts), courses
