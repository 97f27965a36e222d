"""The answers on small lines, held against a plain search over all courses and all faults."""

import random
import unittest
from itertools import product

from plain_search import Found, Seen, explained
from talk import (
    BEGIN, BLAME, EXPLAIN, FEWEST, GO, HELD, LOOSE, NOTHING, PROP, SENSOR, SINCE, TICK, WHERE, talk,
)


def told(seen):
    calls = [(BEGIN, seen.most)] + [(PROP, size) for size in seen.sizes]
    calls += [(SENSOR, prop, error) for prop, error in seen.sensors] + [(GO,)]
    return calls + [(TICK, moves, readings) for moves, readings in zip(seen.moves, seen.readings)]


def asked(seen):
    calls = [(FEWEST,)]
    for prop in range(len(seen.sizes)):
        calls += [(WHERE, prop, tick) for tick in range(seen.now + 1)] + [(EXPLAIN, prop)]
    for sensor in range(len(seen.sensors)):
        calls += [(BLAME, sensor), (SINCE, sensor)]
    return calls


def searched(seen):
    found = Found(seen)
    answers = [found.fewest_told()]
    for prop in range(len(seen.sizes)):
        answers += [found.where(prop, tick) for tick in range(seen.now + 1)] + [found.explain(prop)]
    for sensor in range(len(seen.sensors)):
        answers += [found.blame(sensor), found.since(sensor)]
    return answers, found.something


def drawn_sensor_reads(chance, seen_course, error, size, fault):
    """What a sensor of this fault reads from tick 1 on while the prop goes through the course."""
    reads = []
    number = chance.randrange(size + 1)
    for tick in range(1, len(seen_course)):
        reading = chance.randrange(size)
        if fault < 100 and tick - fault >= 0:
            reading = max(seen_course[tick - fault] + chance.randint(-error, error), 0)
        if fault >= 100 and tick < fault - 100:
            reading = max(seen_course[tick] + chance.randint(-error, error), 0)
        if fault >= 100 and tick >= fault - 100:
            reading = number
        reads.append(NOTHING if chance.random() < 0.2 else reading)
    return reads


def drawn_course(chance, size, moves):
    course = [chance.randrange(size)]
    for move in moves:
        drawn = chance.randrange(size)
        course.append(course[-1] if move == HELD else drawn if move == LOOSE else move)
    return course


def drawn_moves(chance, size, ticks):
    return [chance.choice([HELD, LOOSE] + list(range(size))) for tick in range(ticks)]


def drawn(chance, shapes, ticks, most, faulty):
    """A line of these props, (size, errors of its sensors) each, of which so many sensors are faulty;
    and the props' courses."""
    sizes = [size for size, errors in shapes]
    sensors = [(prop, error) for prop, shape in enumerate(shapes) for error in shape[1]]
    chance.shuffle(sensors)
    moves = [drawn_moves(chance, size, ticks) for size in sizes]
    courses = [drawn_course(chance, size, row) for size, row in zip(sizes, moves)]
    bad = chance.sample(range(len(sensors)), min(faulty, len(sensors)))
    reads = []
    for number, (prop, error) in enumerate(sensors):
        fault = chance.choice([1, 2, 3] + [100 + tick for tick in range(ticks + 1)]) if number in bad else 0
        reads.append(drawn_sensor_reads(chance, courses[prop], error, sizes[prop], fault))
    moves = [list(row) for row in zip(*moves)]
    readings = [[row[tick] for row in reads] for tick in range(ticks)]
    return Seen(most, sizes, sensors, moves, readings), courses


SHAPES = (
    [(2, [0])],
    [(3, [0])],
    [(4, [1])],
    [(2, [0, 0])],
    [(3, [0, 1])],
    [(2, [0, 0, 1])],
    [(3, [0, 0, 1])],
    [(2, [0, 0, 0, 0])],
    [(2, [0]), (3, [0])],
    [(2, [0, 0]), (3, [1])],
    [(3, []), (2, [0, 0])],
    [(2, [0]), (2, [0]), (2, [0])],
    [(2, [1]), (2, [0, 0]), (2, [])],
    [(5, [3, 2])],
)


class Search(unittest.TestCase):
    def held(self, seen):
        calls = told(seen)
        answers, something = searched(seen)
        found = talk(*calls, *asked(seen))
        if seen.now:
            self.assertEqual(found[len(calls) - 1], [0, seen.now, int(something)])
        self.assertEqual(found[len(calls):], answers, vars(seen))

    def test_every_line_of_one_sensor_and_two_ticks(self):
        moves = (HELD, LOOSE, 0, 1)
        for most in (0, 1):
            for first, second in product(moves, repeat=2):
                for readings in product((NOTHING, 0, 1, 2), repeat=2):
                    self.held(Seen(most, [2], [(0, 0)], [[first], [second]], [[number] for number in readings]))

    def test_every_line_of_one_sensor_that_reads_four_ticks_on_end(self):
        for moves in ((0, 1, 0, 0), (LOOSE, 1, HELD, 0), (LOOSE, LOOSE, LOOSE, HELD)):
            for readings in product((NOTHING, 0, 1), repeat=4):
                self.held(Seen(1, [2], [(0, 0)], [[move] for move in moves], [[number] for number in readings]))

    def test_every_line_of_two_sensors_and_a_tick(self):
        for most in (0, 1, 2):
            for move in (LOOSE, 1):
                for readings in product((NOTHING, 0, 1, 2, 3), repeat=2):
                    self.held(Seen(most, [2], [(0, 0), (0, 1)], [[move]], [list(readings)]))

    def test_lines_that_were_drawn(self):
        chance = random.Random(20261119)
        for shape in SHAPES:
            for ticks in range(6 if max(size for size, errors in shape) < 4 else 5):
                for most in (0, 1, 2):
                    for faulty in (most, most + 1) * (4 if ticks else 1):
                        self.held(drawn(chance, shape, ticks, most, faulty)[0])


class Promises(unittest.TestCase):
    def places(self, seen):
        asked = [(WHERE, prop, tick) for prop in range(len(seen.sizes)) for tick in range(seen.now + 1)]
        calls = told(seen)
        found = [answer[1:] for answer in talk(*calls, *asked)[len(calls):]]
        ticks = seen.now + 1
        return [found[prop * ticks:(prop + 1) * ticks] for prop in range(len(seen.sizes))]

    def test_no_more_faults_than_the_most_then_the_true_position_is_told(self):
        chance = random.Random(24)
        shapes = SHAPES + ([(8, [3, 0, 1, 2]), (8, [0, 1, 0, 0]), (2, [])], [(8, [0]), (7, [0, 0, 1])])
        for shape in shapes:
            for ticks in (1, 2, 3, 5, 9, 24):
                for most in (0, 1, 2):
                    seen, courses = drawn(chance, shape, ticks, most, most)
                    for course, places in zip(courses, self.places(seen)):
                        for position, row in zip(course, places):
                            self.assertIn(position, row, vars(seen))

    def test_just_what_some_course_and_faults_explain_is_told(self):
        chance = random.Random(7)
        for shape in SHAPES:
            if sum(len(errors) for size, errors in shape) > 3:
                continue
            for ticks in (1, 2, 3, 4):
                for most in (0, 1, 2):
                    seen = drawn(chance, shape, ticks, most, chance.randint(0, 3))[0]
                    expected = [[sorted(row) for row in rows] for rows in explained(seen)]
                    self.assertEqual(self.places(seen), expected, vars(seen))


if __name__ == "__main__":
    unittest.main()
