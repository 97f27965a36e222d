"""check, settle and settles, on small lines, held against a plain search over all courses, faults and moves."""

import random
import unittest
from itertools import product

from lines import SHAPES, drawn, told
from plain_search import Found, Seen, checked
from talk import CHECK, HELD, LOOSE, NOTHING, SETTLE, SETTLES, followed


def in_parts(calls, length):
    return [calls[start:start + length] for start in range(0, len(calls), length)]


class Checks(unittest.TestCase):
    def held(self, seen, prop, rows):
        for part in in_parts(rows, 70):
            calls = [(CHECK, prop, list(faults), list(course)) for faults, course in part]
            answers = [checked(seen, prop, faults, course) for faults, course in part]
            self.assertEqual(followed(told(seen), calls), answers, (vars(seen), part))

    def test_every_fault_and_every_course_of_one_sensor(self):
        faults = [(fault,) for fault in (0, 1, 2, 3, 100, 101, 102, 103, 104, 124)]
        courses = list(product(range(3), repeat=3))
        for first in (0, 1, 2, 3):
            for moves in ((LOOSE, LOOSE), (HELD, 1), (1, HELD)):
                for readings in ((0, 1), (1, 1), (NOTHING, 2), (2, NOTHING), (NOTHING, NOTHING)):
                    rows = [[number] for number in readings]
                    seen = Seen(0, [2], [(0, 0)], [[move] for move in moves], rows, [first])
                    self.held(seen, 0, list(product(faults, courses)))

    def test_every_pair_of_faults_and_every_course(self):
        chance = random.Random(31)
        faults = list(product((0, 1, 2, 3, 100, 101, 102, 103), repeat=2))
        courses = list(product(range(2), repeat=3)) + [(2, 0, 0), (0, 7, 0)]
        for mends in (0.0, 0.5):
            seen = drawn(chance, [(2, [0, 0])], 2, 1, 1, mends)[0]
            self.held(seen, 0, list(product(faults, courses)))

    def test_rows_that_were_drawn(self):
        chance = random.Random(77)
        for shape in SHAPES:
            for ticks in (0, 1, 3, 6):
                seen, courses = drawn(chance, shape, ticks, 2, chance.randint(0, 2), 0.3)
                for prop, course in enumerate(courses):
                    rows = []
                    for turn in range(60):
                        length = len(seen.sensors_of(prop)) + chance.choice([0] * 8 + [1, -1])
                        choices = [0] * 3 + [1, 2, 3] + list(range(100, 103 + ticks))
                        faults = [chance.choice(choices) for place in range(max(length, 0))]
                        other = [place if chance.random() < 0.9 else chance.randrange(8) for place in course]
                        rows.append((faults, chance.choice([other] * 8 + [other[1:], other + [0]])))
                    self.held(seen, prop, rows)


class Moves(unittest.TestCase):
    def held(self, seen, most_moves, rows):
        """Of each sensor what settle answers, at most three to a line, and settles to these rows."""
        found = Found(seen)
        sensors = range(len(seen.sensors))
        for part in in_parts(list(sensors), 3):
            calls = [(SETTLE, sensor, most_moves) for sensor in part]
            answers = [found.settle(sensor, most_moves) for sensor in part]
            self.assertEqual(followed(told(seen), calls), answers, vars(seen))
        every = [(sensor, row) for sensor in sensors for row in rows[seen.sensors[sensor][0]]]
        for part in in_parts(every, 70):
            calls = [(SETTLES, sensor, list(row)) for sensor, row in part]
            answers = [found.settles(sensor, row) for sensor, row in part]
            self.assertEqual(followed(told(seen), calls), answers, (vars(seen), part))

    def rows_drawn(self, chance, seen, count):
        return [[[chance.randrange(size) for turn in range(chance.randint(0, 6))] for row in range(count)]
                for size in seen.sizes]

    def every_row(self, size, longest):
        return [row for count in range(longest + 1) for row in product(range(size), repeat=count)]

    def test_every_row_of_moves_on_lines_of_one_sensor(self):
        rows = self.every_row(2, 6)
        for first in (0, 1, 2, 3):
            for moves, readings in product(((LOOSE, 1), (0, HELD)), product((NOTHING, 0, 1), repeat=2)):
                seen = Seen(
                    1, [2], [(0, 0)], [[move] for move in moves], [[number] for number in readings], [first])
                self.held(seen, 2, [rows])

    def test_every_reading_and_error_of_one_sensor_and_a_tick(self):
        rows = self.every_row(4, 3)
        for error in (0, 1, 2, 3):
            for reading in (NOTHING, 0, 1, 2, 4, 6, 1000):
                for first in (0, 1, 2):
                    self.held(Seen(1, [4], [(0, error)], [[LOOSE]], [[reading]], [first]), 2, [rows])

    def test_lines_that_were_drawn(self):
        chance = random.Random(8)
        for shape in SHAPES:
            large = sum(len(errors) for size, errors in shape) > 3
            for ticks in (0, 1, 2, 4):
                for most in (1,) if large else (0, 1, 2):
                    for mends in (0.0, 0.4):
                        seen = drawn(chance, shape, ticks, most, chance.randint(0, most), mends)[0]
                        self.held(seen, chance.randint(1, 2), self.rows_drawn(chance, seen, 5))

    def test_lines_with_errors_and_readings_that_were_drawn(self):
        # Readings that stand alone, as those of a stuck sensor, settle more than drawn faults do.
        chance = random.Random(40)
        for turn in range(60):
            size = chance.randint(2, 5)
            count = chance.randint(1, 2)
            ticks = chance.randint(0, 4)
            sensors = [(0, chance.choice([0, 0, 1, 2, 3])) for place in range(count)]
            moves = [[chance.choice([HELD, LOOSE] + list(range(size)))] for tick in range(ticks)]
            readings = [[chance.choice([NOTHING, chance.randrange(size)]) for place in sensors] for tick in moves]
            firsts = [chance.choice([0, 0, chance.randint(0, ticks + 1)]) for place in sensors]
            seen = Seen(chance.randint(1, 2), [size], sensors, moves, readings, firsts)
            self.held(seen, 2, self.rows_drawn(chance, seen, 8))


if __name__ == "__main__":
    unittest.main()
