"""The document's two promises, on lines whose readings come from courses and faults that were drawn."""

import random
import unittest
from itertools import product

from lines import SHAPES, drawn, told
from plain_search import explained
from talk import CHECK, EXPLAIN, FEWEST, LOOSE, WAYS, WHERE, followed

LARGER = (
    [(8, [3, 0, 1, 2]), (8, [0, 1, 0, 0]), (2, [])],
    [(8, [0]), (7, [0, 0, 1])],
    [(6, [0, 2, 0])],
    [(3, [1]), (4, [0, 0]), (5, [0]), (8, [0, 0])],
)


def places_told(seen):
    """Of each prop for each tick what where tells."""
    found = []
    for prop in range(len(seen.sizes)):
        answers = followed(told(seen), [(WHERE, prop, tick) for tick in range(seen.now + 1)])
        found.append([answer[1:] for answer in answers])
    return found


def ways_told(seen, prop):
    answer = followed(told(seen), [(WAYS, prop)])[0]
    sensors = len(seen.sensors_of(prop))
    return [answer[2 + sensors * turn:2 + sensors * (turn + 1)] for turn in range(answer[1])]


def checks(seen, prop, rows):
    """What check answers to each of these (faults, course), in as many lines as that takes."""
    found = []
    for start in range(0, len(rows), 60):
        calls = [(CHECK, prop, list(faults), list(course)) for faults, course in rows[start:start + 60]]
        found += followed(told(seen), calls)
    return found


class Promises(unittest.TestCase):
    def test_no_more_faults_than_the_most_then_the_true_position_is_told(self):
        chance = random.Random(24)
        for shape in SHAPES + LARGER:
            for ticks in (0, 1, 2, 3, 5, 9, 24):
                for most in (0, 1, 2):
                    for mends in (0.0, 0.4):
                        seen, courses = drawn(chance, shape, ticks, most, chance.randint(0, most), mends)
                        for course, places in zip(courses, places_told(seen)):
                            for position, row in zip(course, places):
                                self.assertIn(position, row, vars(seen))

    def test_just_what_some_course_and_faults_explain_is_told(self):
        chance = random.Random(7)
        for shape in SHAPES:
            if sum(len(errors) for size, errors in shape) > 3:
                continue
            for ticks in (1, 2, 3, 4):
                for most in (0, 1, 2):
                    seen = drawn(chance, shape, ticks, most, chance.randint(0, 3), chance.choice([0.0, 0.5]))[0]
                    expected = [[sorted(row) for row in rows] for rows in explained(seen)]
                    self.assertEqual(places_told(seen), expected, vars(seen))

    def test_each_position_told_has_a_course_that_check_takes_with_a_way_that_is_left(self):
        chance = random.Random(11)
        for shape in ([(2, [0, 0])], [(3, [0, 1])], [(2, [0, 0, 1])], [(3, [0]), (2, [0, 0])]):
            for ticks in (1, 2, 3):
                seen = drawn(chance, shape, ticks, chance.randint(1, 2), chance.randint(0, 2), 0.3)[0]
                for prop, places in enumerate(places_told(seen)):
                    every = product(range(seen.sizes[prop]), repeat=ticks + 1)
                    rows = list(product(ways_told(seen, prop), every))
                    going = [row[1] for row, answer in zip(rows, checks(seen, prop, rows)) if answer[1] == 1]
                    found = [sorted({course[tick] for course in going}) for tick in range(ticks + 1)]
                    self.assertEqual(found, places, vars(seen))

    def test_what_explain_tells_is_so_by_check(self):
        chance = random.Random(5)
        for shape in SHAPES + LARGER:
            for ticks in (0, 1, 3, 8, 24):
                for most in (0, 1, 2):
                    seen = drawn(chance, shape, ticks, most, chance.randint(0, most), chance.choice([0.0, 0.5]))[0]
                    fewest = followed(told(seen), [(FEWEST,)])[0]
                    self.assertEqual(fewest[0], 0)
                    for prop in range(len(seen.sizes)):
                        answer = followed(told(seen), [(EXPLAIN, prop)])[0]
                        sensors = len(seen.sensors_of(prop))
                        row = (answer[1:1 + sensors], answer[1 + sensors:])
                        self.assertEqual(len(row[1]), ticks + 1)
                        self.assertEqual(checks(seen, prop, [row]), [[0, 1, fewest[2 + prop]]], vars(seen))

    def test_the_drawn_course_and_faults_are_so_by_check(self):
        # Whatever the prop's sensors read: late by 3 says nothing of the first three ticks.
        chance = random.Random(2)
        for shape in SHAPES:
            seen, courses = drawn(chance, shape, 2, 2, 5)
            for prop, course in enumerate(courses):
                faults = [3] * len(seen.sensors_of(prop))
                self.assertEqual(checks(seen, prop, [(faults, course)]), [[0, 1, len(faults)]])
                self.assertEqual(checks(seen, prop, [(faults, course + [LOOSE + 2])]), [[0, 0, len(faults)]])


if __name__ == "__main__":
    unittest.main()
