"""where, blame, since, fewest and explain, on lines that were worked out by hand."""

import unittest

from talk import (
    BEGIN, BLAME, EXPLAIN, FEWEST, GO, HELD, LOOSE, NOTHING, PROP, SENSOR, SINCE, TICK, WHERE,
    followed, one_prop,
)

ASKED = [(WHERE, 0, 0), (BLAME, 0), (SINCE, 0), (FEWEST,), (EXPLAIN, 0)]


class NoFaults(unittest.TestCase):
    def test_a_prop_without_sensors(self):
        setting = [(BEGIN, 2), (PROP, 3), (GO,), (TICK, [LOOSE], []), (TICK, [2], []), (TICK, [HELD], [])]
        asked = [(WHERE, 0, 1), (WHERE, 0, 3), (FEWEST,), (EXPLAIN, 0)]
        self.assertEqual(followed(setting, asked), [[0, 0, 1, 2], [0, 2], [0, 0, 0], [0, 0, 0, 2, 2]])

    def test_nothing_can_be(self):
        setting = one_prop(0, 3, 0, [(LOOSE, 1), (HELD, 2)])
        self.assertEqual(followed(setting, ASKED), [[0], [0] * 6, [0], [-4], [-4]])

    def test_nothing_can_be_for_one_is_so_for_all(self):
        setting = [(PROP, 3), (PROP, 3), (SENSOR, 1, 0), (GO,), (TICK, [0, 0], [1])]
        asked = [(WHERE, 0, 0), (WHERE, 1, 1), (BLAME, 0), (SINCE, 0), (FEWEST,), (EXPLAIN, 0), (EXPLAIN, 1)]
        self.assertEqual(followed(setting, asked), [[0], [0], [0] * 6, [0], [-4], [-4], [-4]])

    def test_it_can_be_fine_and_nothing_else_with_most_0(self):
        setting = one_prop(0, 5, 1, [(LOOSE, 2), (HELD, 3)])
        self.assertEqual(
            followed(setting, ASKED), [[0, 0, 1, 2, 3, 4], [0, 1, 0, 0, 0, 0], [0], [0, 0, 0], [0, 0, 0, 2, 2]])


class Explain(unittest.TestCase):
    def test_the_least_last_position_then_the_least_before(self):
        setting = one_prop(0, 4, 1, [(LOOSE, 2), (HELD, 3), (LOOSE, NOTHING), (LOOSE, 3), (HELD, NOTHING)])
        self.assertEqual(followed(setting, [(EXPLAIN, 0)]), [[0, 0, 0, 2, 2, 0, 2, 2]])

    def test_the_first_of_the_ways_with_the_fewest(self):
        # Ahead of it in order stands fine, stuck, stuck, but that has two faults.
        setting = [(BEGIN, 2), (PROP, 4)] + [(SENSOR, 0, 0)] * 3 + [(GO,), (TICK, [LOOSE], [1, 2, 2])]
        self.assertEqual(
            followed(setting, [(EXPLAIN, 0), (FEWEST,), (WHERE, 0, 1)]),
            [[0, 100, 0, 0, 0, 2], [0, 1, 1], [0, 1, 2]])

    def test_of_equally_many_faults_the_first_sensor_is_fine(self):
        setting = [(BEGIN, 1), (PROP, 4)] + [(SENSOR, 0, 0)] * 2 + [(GO,), (TICK, [LOOSE], [2, 1])]
        self.assertEqual(
            followed(setting, [(EXPLAIN, 0), (WHERE, 0, 1), (BLAME, 0), (BLAME, 1)]),
            [[0, 0, 100, 0, 2], [0, 1, 2], [0, 1, 1, 1, 1, 1], [0, 1, 1, 1, 1, 1]])

    def test_stuck_stands_before_late(self):
        setting = one_prop(1, 3, 0, [(0, 2)])
        self.assertEqual(
            followed(setting, ASKED),
            [[0, 0, 1, 2], [0, 0, 1, 1, 1, 1], [0, 0, 1], [0, 1, 1], [0, 100, 0, 0]])

    def test_of_several_props(self):
        setting = [(BEGIN, 2), (PROP, 3), (PROP, 4), (PROP, 2), (SENSOR, 1, 0), (SENSOR, 0, 1), (GO,)]
        setting += [(TICK, [1, 2, HELD], [2, 3]), (TICK, [HELD, 3, 1], [0, NOTHING])]
        self.assertEqual(
            followed(setting, [(EXPLAIN, 0), (EXPLAIN, 1), (EXPLAIN, 2), (FEWEST,)]),
            [[0, 100, 0, 1, 1], [0, 102, 0, 2, 3], [0, 0, 0, 1], [0, 2, 1, 1, 0]])


class Late(unittest.TestCase):
    def test_by_1(self):
        setting = one_prop(1, 8, 0, [(1, 5), (2, 1), (3, 2), (4, 3)])
        self.assertEqual(
            followed(setting, ASKED), [[0, 5], [0, 0, 0, 1, 0, 0], [0], [0, 1, 1], [0, 1, 5, 1, 2, 3, 4]])

    def test_by_2_the_first_reading_says_nothing(self):
        setting = one_prop(1, 8, 0, [(1, 700), (2, 6), (3, 1), (4, 2), (5, 3)])
        self.assertEqual(
            followed(setting, ASKED), [[0, 6], [0, 0, 0, 0, 1, 0], [0], [0, 1, 1], [0, 2, 6, 1, 2, 3, 4, 5]])

    def test_by_3_two_readings_say_nothing(self):
        setting = one_prop(1, 8, 0, [(1, 700), (2, 1000), (3, 7), (4, 1), (5, 2), (5, 3)])
        self.assertEqual(
            followed(setting, ASKED), [[0, 7], [0, 0, 0, 0, 0, 1], [0], [0, 1, 1], [0, 3, 7, 1, 2, 3, 4, 5, 5]])

    def test_a_reading_that_speaks_of_tick_0_counts(self):
        # Late by d tells of tick 0 at tick d, and a position of 1000 there is none.
        for late in (1, 2, 3):
            with self.subTest(late=late):
                ticks = [(0, NOTHING)] * (late - 1) + [(0, 1000), (0, 1)]
                found = followed(one_prop(1, 2, 0, ticks), [(BLAME, 0)])[0]
                self.assertEqual(found[2 + late], 0)

    def test_before_tick_d_it_may_be_late_by_d_whatever_it_read(self):
        setting = one_prop(1, 2, 0, [(0, 900)])
        self.assertEqual(followed(setting, [(BLAME, 0)]), [[0, 0, 1, 0, 1, 1]])
        setting = one_prop(1, 2, 0, [(0, 900), (0, 901)])
        self.assertEqual(followed(setting, [(BLAME, 0)]), [[0, 0, 0, 0, 0, 1]])

    def test_its_readings_tell_of_the_error_too(self):
        setting = one_prop(1, 8, 2, [(7, 0), (7, 6), (7, 6), (2, 7), (7, 4), (2, 6), (2, 4)])
        self.assertEqual(followed(setting, ASKED[:2]), [[0, 0, 1, 2], [0, 0, 0, 1, 0, 0]])


class Stuck(unittest.TestCase):
    def test_from_each_tick(self):
        for start in range(2, 25):
            ticks = [(tick % 8, tick % 8 if tick < start else 9) for tick in range(1, 25)]
            course = [0] + [tick % 8 for tick in range(1, 25)]
            with self.subTest(start=start):
                self.assertEqual(
                    followed(one_prop(1, 8, 0, ticks), ASKED[1:]),
                    [[0, 0, 1, 0, 0, 0], [0, start], [0, 1, 1], [0, 100 + start] + course])

    def test_from_tick_0(self):
        setting = one_prop(1, 8, 0, [(tick % 8, 9) for tick in range(1, 25)])
        self.assertEqual(
            followed(setting, ASKED[1:4]), [[0, 0, 1, 0, 0, 0], [0, 0, 1], [0, 1, 1]])

    def test_with_no_readings_behind_it(self):
        for start in range(1, 25):
            ticks = [(tick % 8, tick % 8 if tick < start else NOTHING) for tick in range(1, 25)]
            # From the last reading's tick on it's one number, from then on there are none.
            ticks_told = list(range(max(start - 1, 0), 25)) if start > 2 else list(range(25))
            with self.subTest(start=start):
                found = followed(one_prop(1, 8, 0, ticks), [(SINCE, 0), (FEWEST,), (BLAME, 0)])
                self.assertEqual(found[0], [0] + ticks_told)
                self.assertEqual(found[1], [0, 0, 0])
                self.assertEqual(found[2][1:3], [1, 1])

    def test_it_sticks_at_what_it_read_last_though_that_is_wrong(self):
        setting = one_prop(1, 4, 0, [(1, 1), (2, 2), (3, 1), (0, NOTHING), (0, NOTHING)])
        self.assertEqual(
            followed(setting, [(SINCE, 0), (EXPLAIN, 0), (BLAME, 0)]),
            [[0, 3], [0, 103, 0, 1, 2, 3, 0, 0], [0, 0, 1, 0, 1, 1]])

    def test_gaps_between_equal_readings_are_no_other_number(self):
        setting = one_prop(1, 4, 0, [(1, 1), (2, 3), (3, NOTHING), (0, 3), (0, NOTHING)])
        self.assertEqual(followed(setting, [(SINCE, 0), (EXPLAIN, 0)]), [[0, 2], [0, 102, 0, 1, 2, 3, 0, 0]])

    def test_what_it_reads_once_stuck_says_nothing_of_where_the_prop_is(self):
        setting = one_prop(1, 4, 0, [(LOOSE, 9), (LOOSE, 9), (LOOSE, 9)])
        self.assertEqual(followed(setting, [(WHERE, 0, 3)]), [[0, 0, 1, 2, 3]])

    def test_what_it_reads_before_it_sticks_agrees(self):
        setting = one_prop(1, 4, 0, [(LOOSE, 2), (HELD, NOTHING), (3, 1), (2, 1), (0, 1), (0, 1)])
        self.assertEqual(
            followed(setting, [(WHERE, 0, 1), (WHERE, 0, 2), (SINCE, 0)]), [[0, 2], [0, 2], [0, 2, 3]])

    def test_since_looks_at_the_other_sensors_of_the_prop(self):
        # The second sensor holds the prop at 1, so the first can't have been right at tick 1.
        setting = [(BEGIN, 1), (PROP, 4), (SENSOR, 0, 0), (SENSOR, 0, 0), (GO,)]
        setting += [(TICK, [LOOSE], [2, NOTHING]), (TICK, [HELD], [NOTHING, 1]), (TICK, [3], [2, 3])]
        self.assertEqual(followed(setting, [(SINCE, 0), (SINCE, 1)]), [[0, 0, 1], [0]])

    def test_since_with_another_fault_beside_it(self):
        setting = [(BEGIN, 2), (PROP, 4), (SENSOR, 0, 0), (SENSOR, 0, 0), (GO,)]
        setting += [(TICK, [1], [1, 3]), (TICK, [2], [2, 1]), (TICK, [3], [2, 2]), (TICK, [0], [2, 3])]
        self.assertEqual(
            followed(setting, [(SINCE, 0), (SINCE, 1), (BLAME, 0), (BLAME, 1), (EXPLAIN, 0)]),
            [[0, 2, 3], [0], [0, 0, 1, 0, 0, 0], [0, 0, 0, 1, 0, 0], [0, 102, 1, 3, 1, 2, 3, 0]])


class ManyProps(unittest.TestCase):
    def line(self, most):
        setting = [(BEGIN, most), (PROP, 3), (PROP, 3), (SENSOR, 0, 0), (SENSOR, 1, 0), (GO,)]
        return setting + [(TICK, [LOOSE, 0], [1, 2])]

    def test_one_props_faults_use_up_what_another_may_have(self):
        asked = [(WHERE, 0, 1), (BLAME, 0), (SINCE, 0), (FEWEST,), (EXPLAIN, 0), (BLAME, 1), (SINCE, 1)]
        self.assertEqual(
            followed(self.line(1), asked),
            [[0, 1], [0, 1, 0, 0, 0, 0], [0], [0, 1, 0, 1], [0, 0, 0, 1], [0, 0, 1, 1, 1, 1], [0, 0, 1]])

    def test_with_one_more_it_may_have_one_too(self):
        asked = [(WHERE, 0, 1), (BLAME, 0), (SINCE, 0), (FEWEST,), (EXPLAIN, 0)]
        self.assertEqual(
            followed(self.line(2), asked),
            [[0, 0, 1, 2], [0, 1, 1, 1, 1, 1], [0, 0, 1], [0, 1, 0, 1], [0, 0, 0, 1]])

    def test_two_faults_of_one_prop_leave_none(self):
        setting = [(BEGIN, 2), (PROP, 2), (PROP, 2), (SENSOR, 0, 0), (SENSOR, 1, 0), (SENSOR, 0, 0), (GO,)]
        setting += [(TICK, [0, LOOSE], [1, 1, 1])]
        self.assertEqual(
            followed(setting, [(WHERE, 1, 1), (BLAME, 1), (FEWEST,)]),
            [[0, 1], [0, 1, 0, 0, 0, 0], [0, 2, 2, 0]])

    def test_the_largest_line(self):
        setting = [(BEGIN, 2)] + [(PROP, 8)] * 4 + [(SENSOR, 0, 0)] * 4 + [(SENSOR, 3, 3)] * 4 + [(GO,)]
        for tick in range(1, 25):
            place = tick % 8
            setting.append((TICK, [place] * 4, [place] * 3 + [8] + [place] * 3 + [1000]))
        course = [0] + [tick % 8 for tick in range(1, 25)]
        asked = [(FEWEST,), (EXPLAIN, 0), (EXPLAIN, 2), (EXPLAIN, 3), (BLAME, 0), (BLAME, 3), (SINCE, 3),
                 (BLAME, 7), (SINCE, 7), (WHERE, 3, 24), (WHERE, 1, 0)]
        self.assertEqual(
            followed(setting, asked),
            [[0, 2, 1, 0, 0, 1], [0, 0, 0, 0, 100] + course, [0] + course, [0, 0, 0, 0, 100] + course,
             [0, 1, 0, 0, 0, 0], [0, 0, 1, 0, 0, 0], [0, 0, 1], [0, 0, 1, 0, 0, 0], [0, 0, 1], [0, 0],
             [0, 0, 1, 2, 3, 4, 5, 6, 7]])


if __name__ == "__main__":
    unittest.main()
