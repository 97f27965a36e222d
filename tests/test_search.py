"""What can be, on small lines, held against a plain search over all courses and all faults."""

import random
import unittest
from itertools import product

from lines import SHAPES, drawn, told, told_with_allow
from plain_search import Found, Seen
from talk import BLAME, EXPLAIN, FEWEST, HELD, LOOSE, NOTHING, SINCE, SURE, WAYS, WHERE, followed, talk


def asked(seen):
    calls = [(FEWEST,), (SURE,)]
    for prop in range(len(seen.sizes)):
        calls += [(WHERE, prop, tick) for tick in range(seen.now + 1)] + [(EXPLAIN, prop), (WAYS, prop)]
    for sensor in range(len(seen.sensors)):
        calls += [(BLAME, sensor), (SINCE, sensor)]
    return calls


def searched(seen):
    found = Found(seen)
    answers = [found.fewest_told(), found.sure()]
    for prop in range(len(seen.sizes)):
        answers += [found.where(prop, tick) for tick in range(seen.now + 1)]
        answers += [found.explain(prop), found.ways(prop)]
    for sensor in range(len(seen.sensors)):
        answers += [found.blame(sensor), found.since(sensor)]
    return answers, found.something


class Search(unittest.TestCase):
    def held(self, seen):
        calls = told(seen)
        answers, something = searched(seen)
        found = talk(*calls, *asked(seen))
        if seen.now and seen.now + 1 not in seen.firsts:
            self.assertEqual(found[len(calls) - 1], [0, seen.now, int(something)])
        self.assertEqual(found[len(calls):], answers, vars(seen))

    def test_every_line_of_one_sensor_and_two_ticks(self):
        moves = (HELD, LOOSE, 0, 1)
        for most in (0, 1):
            for first, second in product(moves, repeat=2):
                for readings in product((NOTHING, 0, 1, 2), repeat=2):
                    self.held(Seen(most, [2], [(0, 0)], [[first], [second]], [[number] for number in readings]))

    def test_every_line_of_one_sensor_that_reads_four_ticks_on_end(self):
        for moves in ((0, 1, 0, 0), (LOOSE, 1, HELD, 0), (LOOSE, LOOSE, LOOSE, HELD)):
            for readings in product((NOTHING, 0, 1), repeat=4):
                self.held(Seen(1, [2], [(0, 0)], [[move] for move in moves], [[number] for number in readings]))

    def test_every_line_of_one_sensor_that_was_mended_before_a_tick(self):
        for first in (1, 2, 3, 4):
            for moves in ((0, 1, 0), (1, HELD, 0), (LOOSE, LOOSE, HELD)):
                for readings in product((NOTHING, 0, 1), repeat=3):
                    rows = [[number] for number in readings]
                    for most in (0, 1):
                        self.held(Seen(most, [2], [(0, 0)], [[move] for move in moves], rows, [first]))

    def test_every_line_of_two_sensors_and_a_tick(self):
        for most in (0, 1, 2):
            for move in (LOOSE, 1):
                for readings in product((NOTHING, 0, 1, 2, 3), repeat=2):
                    self.held(Seen(most, [2], [(0, 0), (0, 1)], [[move]], [list(readings)]))

    def test_lines_that_were_drawn(self):
        chance = random.Random(20261119)
        for shape in SHAPES:
            for ticks in range(6 if max(size for size, errors in shape) < 4 else 5):
                for most in (0, 1, 2):
                    for faulty in (most, most + 1) * (3 if ticks else 1):
                        self.held(drawn(chance, shape, ticks, most, faulty)[0])

    def test_lines_that_were_drawn_with_mended_sensors(self):
        chance = random.Random(19)
        for shape in SHAPES:
            for ticks in range(6 if max(size for size, errors in shape) < 4 else 5):
                for most in (0, 1, 2):
                    for mends in (0.3, 0.6, 1):
                        self.held(drawn(chance, shape, ticks, most, chance.randint(most, most + 1), mends)[0])

    def test_the_most_is_what_allow_told_last(self):
        chance = random.Random(3)
        for shape in SHAPES:
            for ticks in (0, 2, 4):
                for most in (0, 1, 2):
                    seen = drawn(chance, shape, ticks, most, chance.randint(0, most + 1), 0.2)[0]
                    answers = searched(seen)[0]
                    for place in sorted({1, chance.randint(1, len(told(seen))), len(told(seen))}):
                        self.assertEqual(followed(told_with_allow(seen, place), asked(seen)), answers, vars(seen))


if __name__ == "__main__":
    unittest.main()
