"""mend, allow, reads and state; and what tick, where, blame, since, fewest and explain answer behind them."""

import unittest

from talk import (
    ALLOW, BEGIN, BLAME, EXPLAIN, FEWEST, GO, HELD, LOOSE, MEND, NOTHING, PROP, READS, SENSOR, SINCE, STATE, SURE,
    TICK, WAYS, WHERE, followed, last, one_prop, talk,
)

EVERY_KIND = [0, 1, 1, 1, 1, 1]


class State(unittest.TestCase):
    def test_at_a_lines_beginning(self):
        self.assertEqual(talk((STATE,)), [[0, 0, 0, 0, 0, 0]])

    def test_each_number(self):
        calls = [(BEGIN, 2), (PROP, 4), (PROP, 3), (SENSOR, 1, 0), (SENSOR, 0, 0), (SENSOR, 1, 0)]
        self.assertEqual(last(*calls, (STATE,)), [0, 2, 3, 0, 0, 2])
        calls.append((GO,))
        self.assertEqual(last(*calls, (STATE,)), [0, 2, 3, 1, 0, 2])
        calls += [(TICK, [0, 0], [1, 1, 1])] * 24
        self.assertEqual(last(*calls, (STATE,)), [0, 2, 3, 1, 24, 2])

    def test_where_nothing_can_be(self):
        self.assertEqual(last(*one_prop(0, 2, 0, [(0, 1)]), (STATE,)), [0, 1, 1, 1, 1, 0])

    def test_behind_begin(self):
        calls = one_prop(2, 2, 0, [(0, 1)]) + [(BEGIN, 1), (STATE,)]
        self.assertEqual(last(*calls), [0, 0, 0, 0, 0, 1])

    def test_behind_mend_and_allow(self):
        setting = one_prop(2, 2, 0, [(0, 1)])
        self.assertEqual(followed(setting, [(MEND, 0), (STATE,)]), [[0], [0, 1, 1, 1, 1, 2]])
        self.assertEqual(followed(setting, [(ALLOW, 1), (STATE,)]), [[0], [0, 1, 1, 1, 1, 1]])


class Reads(unittest.TestCase):
    def test_at_tick_0(self):
        self.assertEqual(last(*one_prop(0, 2, 0, []), (READS, 0)), [0, 0, NOTHING])

    def test_tick_by_tick(self):
        setting = one_prop(0, 2, 0, [(0, 1000), (0, NOTHING), (0, 0), (0, 7)])
        self.assertEqual(last(*setting, (READS, 0)), [0, 0, NOTHING, 1000, NOTHING, 0, 7])

    def test_of_each_sensor(self):
        setting = [(PROP, 2), (PROP, 2), (SENSOR, 1, 0), (SENSOR, 0, 0), (SENSOR, 1, 0), (GO,)]
        setting += [(TICK, [0, 0], [1, 2, 3]), (MEND, 1), (TICK, [0, 0], [4, 5, NOTHING])]
        self.assertEqual(
            followed(setting, [(READS, sensor) for sensor in range(3)]),
            [[0, 0, NOTHING, 1, 4], [0, 2, 5], [0, 0, NOTHING, 3, NOTHING]])

    def test_up_to_tick_24(self):
        setting = one_prop(2, 2, 0, [(0, tick) for tick in range(1, 25)])
        self.assertEqual(last(*setting, (READS, 0)), [0, 0, NOTHING] + list(range(1, 25)))


class Mend(unittest.TestCase):
    def test_right_now_it_has_read_nothing_yet(self):
        for now in (0, 1, 5, 24):
            setting = one_prop(0, 2, 0, [(0, 1)] * now)
            with self.subTest(now=now):
                self.assertEqual(followed(setting, [(MEND, 0), (READS, 0)]), [[0], [0, now + 1]])

    def test_what_is_read_from_then_on(self):
        setting = one_prop(0, 2, 0, [(0, 3)] * 2) + [(MEND, 0), (TICK, [0], [NOTHING]), (READS, 0)]
        self.assertEqual(last(*setting), [0, 3, NOTHING])
        self.assertEqual(followed(setting, [(TICK, [0], [8]), (READS, 0)])[1], [0, 3, NOTHING, 8])

    def test_twice(self):
        setting = one_prop(0, 2, 0, [(0, 3)])
        self.assertEqual(followed(setting, [(MEND, 0), (MEND, 0), (READS, 0)])[2], [0, 2])
        later = [(MEND, 0), (TICK, [0], [0]), (TICK, [1], [1]), (MEND, 0), (TICK, [0], [5]), (READS, 0)]
        self.assertEqual(followed(setting, later)[5], [0, 4, 5])

    def test_right_now_it_cannot_be_stuck(self):
        for now in (0, 1, 24):
            setting = one_prop(1, 3, 0, [(1, 1)] * now) + [(MEND, 0)]
            with self.subTest(now=now):
                self.assertEqual(
                    followed(setting, [(BLAME, 0), (SINCE, 0), (WAYS, 0)]),
                    [[0, 1, 0, 1, 1, 1], [0], [0, 4, 0, 1, 2, 3]])

    def test_from_the_next_tick_on_it_can_be_stuck(self):
        setting = one_prop(1, 3, 0, [(1, 1), (1, 1)]) + [(MEND, 0), (TICK, [2], [NOTHING])]
        self.assertEqual(followed(setting, [(BLAME, 0), (SINCE, 0)]), [EVERY_KIND, [0, 3]])
        setting.append((TICK, [0], [NOTHING]))
        self.assertEqual(followed(setting, [(SINCE, 0), (WAYS, 0)]), [[0, 3, 4], [0, 5, 0, 103, 1, 2, 3]])
        setting.append((TICK, [0], [2]))
        self.assertEqual(
            followed(setting, [(BLAME, 0), (SINCE, 0), (EXPLAIN, 0)]),
            [[0, 0, 1, 0, 1, 1], [0, 3, 4, 5], [0, 103, 0, 1, 1, 2, 0, 0]])

    def test_it_sticks_from_its_first_tick_or_later(self):
        # All it ever read is 2, but only from tick 3 on does it count.
        setting = one_prop(1, 4, 0, [(LOOSE, 2), (LOOSE, 2)]) + [(MEND, 0)]
        setting += [(TICK, [2], [2]), (TICK, [2], [2]), (TICK, [1], [2]), (TICK, [1], [2]), (TICK, [1], [2])]
        self.assertEqual(
            followed(setting, [(SINCE, 0), (EXPLAIN, 0), (BLAME, 0)]),
            [[0, 3, 4, 5], [0, 103, 0, 0, 0, 2, 2, 1, 1, 1], [0, 0, 1, 0, 0, 1]])

    def test_what_was_read_is_forgotten(self):
        setting = one_prop(0, 3, 0, [(LOOSE, 2), (HELD, NOTHING)])
        self.assertEqual(followed(setting, [(WHERE, 0, 1), (WHERE, 0, 2)]), [[0, 2], [0, 2]])
        self.assertEqual(followed(setting, [(MEND, 0), (WHERE, 0, 1), (WHERE, 0, 2)])[1:], [[0, 0, 1, 2]] * 2)

    def test_what_the_other_sensors_read_stays(self):
        setting = [(PROP, 4), (SENSOR, 0, 1), (SENSOR, 0, 1), (GO,), (TICK, [LOOSE], [1, 2])]
        asked = [(WHERE, 0, 1), (READS, 1)]
        self.assertEqual(followed(setting, asked), [[0, 1, 2], [0, 0, NOTHING, 2]])
        self.assertEqual(followed(setting, [(MEND, 0)] + asked)[1:], [[0, 1, 2, 3], [0, 0, NOTHING, 2]])
        self.assertEqual(followed(setting, [(MEND, 1), (WHERE, 0, 1)])[1:], [[0, 0, 1, 2]])

    def test_something_can_be_again(self):
        setting = one_prop(0, 3, 0, [(0, 1)])
        asked = [(WHERE, 0, 1), (BLAME, 0), (FEWEST,), (EXPLAIN, 0), (TICK, [1], [1])]
        self.assertEqual(followed(setting, asked), [[0], [0] * 6, [-4], [-4], [0, 2, 0]])
        self.assertEqual(
            followed(setting + [(MEND, 0)], asked),
            [[0, 0], [0, 1, 0, 0, 0, 0], [0, 0, 0], [0, 0, 0, 0], [0, 2, 1]])

    def test_fewer_faults(self):
        setting = [(BEGIN, 2), (PROP, 3), (PROP, 3), (SENSOR, 0, 0), (SENSOR, 1, 0), (GO,), (TICK, [0, 0], [1, 1])]
        asked = [(FEWEST,), (EXPLAIN, 0), (EXPLAIN, 1), (SURE,)]
        self.assertEqual(followed(setting, asked), [[0, 2, 1, 1], [0, 100, 0, 0], [0, 100, 0, 0], [0, 0, 1]])
        self.assertEqual(
            followed(setting, [(MEND, 0)] + asked)[1:], [[0, 1, 0, 1], [0, 0, 0, 0], [0, 100, 0, 0], [0, 1]])

    def test_late_says_nothing_of_ticks_before_the_first(self):
        # Mended at tick 2: what it reads at tick 3 on can be late by d from tick 3 + d on.
        for late in (1, 2, 3):
            setting = one_prop(1, 8, 0, [(1, 5), (2, 6)]) + [(MEND, 0)]
            course = [3, 4, 5, 6, 7, 0, 1, 2, 3]
            for turn, place in enumerate(course):
                reading = course[turn - late] if turn >= late else 900 + turn
                setting.append((TICK, [place], [reading]))
            with self.subTest(late=late):
                kinds = [0, 0, 0] + [int(late == other) for other in (1, 2, 3)]
                self.assertEqual(
                    followed(setting, [(BLAME, 0), (EXPLAIN, 0)]), [kinds, [0, late, 0, 1, 2] + course])

    def test_late_tells_of_its_first_tick(self):
        for late in (1, 2, 3):
            setting = one_prop(1, 8, 0, [(1, 5)]) + [(MEND, 0)] + [(TICK, [4], [NOTHING])] * late
            with self.subTest(late=late):
                self.assertEqual(followed(setting, [(TICK, [0], [4]), (BLAME, 0)])[1][2 + late], 1)
                self.assertEqual(followed(setting, [(TICK, [0], [5]), (BLAME, 0)])[1][2 + late], 0)

    def test_late_by_more_than_the_ticks_since_goes_with_any_reading(self):
        setting = one_prop(1, 8, 0, [(1, 1)] * 6) + [(MEND, 0), (TICK, [1], [9]), (TICK, [1], [8])]
        self.assertEqual(
            followed(setting, [(BLAME, 0), (SINCE, 0), (WAYS, 0)]),
            [[0, 0, 0, 0, 1, 1], [0], [0, 2, 2, 3]])

    def test_at_tick_24(self):
        setting = one_prop(1, 2, 0, [(0, 1)] * 24) + [(MEND, 0)]
        asked = [(READS, 0), (BLAME, 0), (SINCE, 0), (FEWEST,), (WHERE, 0, 24), (TICK, [0], [0])]
        self.assertEqual(
            followed(setting, asked), [[0, 25], [0, 1, 0, 1, 1, 1], [0], [0, 0, 0], [0, 0], [-5]])

    def test_at_tick_0_it_can_be_stuck_from_tick_1(self):
        setting = one_prop(1, 2, 0, []) + [(MEND, 0), (TICK, [0], [1])]
        self.assertEqual(
            followed(setting, [(SINCE, 0), (WAYS, 0), (EXPLAIN, 0)]),
            [[0, 1], [0, 4, 101, 1, 2, 3], [0, 101, 0, 0]])


class Allow(unittest.TestCase):
    def test_more_and_less(self):
        setting = [(BEGIN, 0), (PROP, 2)] + [(SENSOR, 0, 0)] * 2 + [(GO,), (TICK, [0], [1, 1])]
        asked = [(FEWEST,), (WHERE, 0, 1), (BLAME, 1), (SINCE, 1), (EXPLAIN, 0), (WAYS, 0), (TICK, [0], [1, 1])]
        nothing = [[-4], [0], [0] * 6, [0], [-4], [0, 0], [0, 2, 0]]
        for most in (0, 1):
            self.assertEqual(followed(setting, [(ALLOW, most)] + asked)[1:], nothing)
        something = followed(setting, [(ALLOW, 2)] + asked)
        self.assertEqual(
            something[:6],
            [[0], [0, 2, 2], [0, 0], [0, 0, 1, 1, 1, 1], [0, 0, 1], [0, 100, 100, 0, 0]])
        self.assertEqual(something[6][:2], [0, 16])
        self.assertEqual(something[7], [0, 2, 1])
        self.assertEqual(followed(setting, [(ALLOW, 2), (ALLOW, 1)] + asked)[2:], nothing)

    def test_before_it_has_begun(self):
        calls = [(PROP, 2), (SENSOR, 0, 0)]
        later = [(GO,), (TICK, [0], [1]), (STATE,)]
        self.assertEqual(talk((ALLOW, 1), *calls, *later)[-2:], [[0, 1, 1], [0, 1, 1, 1, 1, 1]])
        self.assertEqual(talk((BEGIN, 2), *calls, (ALLOW, 0), *later)[-2:], [[0, 1, 0], [0, 1, 1, 1, 1, 0]])
        self.assertEqual(talk((ALLOW, 2), (STATE,)), [[0], [0, 0, 0, 0, 0, 2]])

    def test_begin_tells_another_most(self):
        self.assertEqual(talk((ALLOW, 2), (BEGIN, 1), (STATE,))[2], [0, 0, 0, 0, 0, 1])

    def test_each_most_gives_its_ways(self):
        setting = [(BEGIN, 1), (PROP, 2)] + [(SENSOR, 0, 0)] * 4 + [(GO,)]
        for most, ways in ((0, 1), (1, 17), (2, 113)):
            self.assertEqual(followed(setting, [(ALLOW, most), (WAYS, 0)])[1][:2], [0, ways])

    def test_it_changes_nothing_else(self):
        setting = one_prop(2, 3, 1, [(LOOSE, 2), (HELD, 0)])
        asked = [(READS, 0), (WAYS, 0), (EXPLAIN, 0), (WHERE, 0, 0)]
        self.assertEqual(followed(setting, [(ALLOW, 0), (ALLOW, 2)] + asked)[2:], followed(setting, asked))


if __name__ == "__main__":
    unittest.main()
