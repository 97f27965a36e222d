"""settle and settles, on lines that were worked out by hand."""

import unittest

from talk import (
    ALLOW, BEGIN, GO, HELD, LOOSE, MEND, NOTHING, PROP, SENSOR, SETTLE, SETTLES, TICK, WAYS, followed, last, one_prop,
)


def settled(setting, *rows):
    """Which of the rows of told moves settle the sensor 0."""
    return [answer[1] for answer in followed(setting, [(SETTLES, 0, list(row)) for row in rows])]


class NoMoves(unittest.TestCase):
    def needs_none(self, setting, sensor=0):
        for count in (0, 1, 2):
            self.assertEqual(last(*setting, (SETTLE, sensor, count)), [0, 1])
        for row in ([], [0], [1, 1, 1, 1, 1, 1]):
            self.assertEqual(last(*setting, (SETTLES, sensor, row)), [0, 1])

    def test_it_is_fine_in_all(self):
        self.needs_none(one_prop(0, 2, 0, []))
        self.needs_none(one_prop(0, 8, 1, [(1, 1)] * 24))

    def test_it_is_fine_in_none(self):
        setting = one_prop(1, 4, 0, [(1, 3)])
        self.assertEqual(last(*setting, (WAYS, 0)), [0, 4, 100, 1, 2, 3])
        self.needs_none(setting)

    def test_no_ways_are_left(self):
        self.needs_none(one_prop(0, 4, 0, [(1, 3)]))

    def test_another_prop_has_used_up_the_faults(self):
        setting = [(BEGIN, 1), (PROP, 2), (PROP, 2), (SENSOR, 0, 0), (SENSOR, 1, 0), (GO,), (TICK, [0, 0], [1, 0])]
        self.needs_none(setting, 0)
        self.needs_none(setting, 1)
        self.assertEqual(followed(setting, [(ALLOW, 2), (SETTLE, 1, 2), (SETTLES, 1, [])])[1:], [[0, 0], [0, 0]])


class OneMove(unittest.TestCase):
    # Fine, stuck at 3, or late by 3, in which case it reads 1, 2, 3 at the next three ticks.
    setting = one_prop(1, 4, 0, [(1, 1), (2, 2), (3, 3)])

    def test_the_ways(self):
        self.assertEqual(last(*self.setting, (WAYS, 0)), [0, 3, 0, 103, 3])

    def test_the_first_that_settles(self):
        found = [last(*self.setting, (SETTLE, 0, count)) for count in (0, 1, 2)]
        self.assertEqual(found, [[0, 0], [0, 1, 0], [0, 1, 0]])

    def test_each_row(self):
        rows = [[], [0], [1], [2], [3], [1, 0], [1, 1], [1, 2], [1, 3], [3, 0], [3, 1], [3, 2], [3, 3]]
        self.assertEqual(settled(self.setting, *rows), [0, 1, 0, 1, 0, 1, 1, 0, 1, 1, 1, 1, 0])

    def test_late_reads_a_told_position_in_the_end(self):
        # At the fourth told tick late by 3 reads the first told position.
        rows = [[1, 2, 3], [1, 2, 3, 1], [1, 2, 3, 0], [1, 2, 3, 1, 2, 3], [1, 2, 3, 1, 2, 1]]
        self.assertEqual(settled(self.setting, *rows), [0, 0, 1, 0, 1])

    def test_it_reads_just_what_it_is_stuck_at(self):
        for place in (0, 2, 3):
            setting = one_prop(1, 4, 0, [(1, 1), (1, 1), (1, 1), (place, place)])
            with self.subTest(place=place):
                self.assertEqual(last(*setting, (WAYS, 0)), [0, 2, 0, 104])
                self.assertEqual(
                    settled(setting, *[[other] for other in range(4)]), [int(other != place) for other in range(4)])
                self.assertEqual(settled(setting, [place] * 6, [place] * 5 + [1]), [0, 1])

    def test_the_first_position_in_order(self):
        for place, first in ((0, 1), (2, 0), (3, 0)):
            setting = one_prop(1, 4, 0, [(1, 1), (1, 1), (1, 1), (place, place)])
            self.assertEqual(last(*setting, (SETTLE, 0, 2)), [0, 1, first])

    def test_at_tick_24(self):
        setting = one_prop(1, 4, 0, [(1, 1)] * 23 + [(2, 2)])
        self.assertEqual(last(*setting, (SETTLE, 0, 1)), [0, 1, 0])
        self.assertEqual(settled(setting, [2], [2, 2, 2, 2, 2, 3]), [0, 1])

    def test_of_another_prop_and_sensor(self):
        setting = [(BEGIN, 1), (PROP, 2), (PROP, 4), (SENSOR, 0, 0), (SENSOR, 1, 0), (GO,)]
        setting += [(TICK, [0, place], [0, place]) for place in (1, 1, 1, 3)]
        asked = [(SETTLE, 1, 1), (SETTLES, 1, [3]), (SETTLES, 1, [0]), (SETTLE, 0, 1), (SETTLES, 0, [0])]
        self.assertEqual(followed(setting, asked), [[0, 1, 0], [0, 0], [0, 1], [0, 1, 1], [0, 0]])


class TwoMoves(unittest.TestCase):
    # Fine, stuck at 0, or late by 3, in which case it reads 1 at the next two ticks.
    setting = one_prop(1, 2, 0, [(1, NOTHING), (1, NOTHING), (0, 0)])

    def test_the_fewest(self):
        self.assertEqual(last(*self.setting, (WAYS, 0)), [0, 3, 0, 100, 3])
        found = [last(*self.setting, (SETTLE, 0, count)) for count in (0, 1, 2)]
        self.assertEqual(found, [[0, 0], [0, 0], [0, 1, 0, 1]])

    def test_each_row(self):
        rows = [[0], [1], [0, 0], [0, 1], [1, 0], [1, 1]]
        self.assertEqual(settled(self.setting, *rows), [0, 0, 0, 1, 1, 0])

    def test_none_of_two(self):
        # Late by 2 it may read any position now, as the prop went loose into tick 1.
        setting = one_prop(1, 4, 0, [(LOOSE, 2)])
        self.assertEqual(last(*setting, (SETTLE, 0, 2)), [0, 0])
        rows = [[0, 1], [0, 0, 1], [0, 0, 1, 1], [0, 1, 2, 3], [0, 1, 2, 0], [2, 2, 2, 2], [2, 2, 2, 3], [2, 2, 3, 3]]
        self.assertEqual(settled(setting, *rows), [0, 0, 1, 1, 0, 0, 1, 1])


class MayRead(unittest.TestCase):
    def test_fine_and_stuck_with_each_error(self):
        # Stuck at 7, and not late: the prop stood at 0 for three ticks.
        for error in (0, 1, 2, 3):
            setting = one_prop(1, 8, error, [(0, 0), (0, 0), (0, 0), (7, 7)])
            with self.subTest(error=error):
                self.assertEqual(last(*setting, (WAYS, 0)), [0, 2, 0, 104])
                self.assertEqual(last(*setting, (SETTLE, 0, 1)), [0, 1, 0])
                self.assertEqual(
                    settled(setting, *[[place] for place in range(8)]), [int(place + error < 7) for place in range(8)])

    def test_a_told_position_less_than_the_error(self):
        # Stuck at what's read last, with the prop at 0 then and at 7 before.
        for error in (0, 1, 2, 3):
            for number in range(error + 1):
                setting = one_prop(1, 8, error, [(7, 7), (7, 7), (7, 7), (0, number)])
                with self.subTest(error=error, number=number):
                    self.assertEqual(last(*setting, (WAYS, 0)), [0, 2, 0, 104])
                    self.assertEqual(
                        settled(setting, *[[place] for place in range(8)]),
                        [int(abs(place - number) > error) for place in range(8)])
                    self.assertEqual(last(*setting, (SETTLE, 0, 1)), [0, 1, number + error + 1])

    def test_fine_and_late_are_apart_by_twice_the_error(self):
        # Stuck at 0, or late by 3, in which case it reads 2 to 4 at the next tick.
        setting = one_prop(1, 8, 1, [(3, 3), (7, 7), (0, 0)])
        self.assertEqual(last(*setting, (WAYS, 0)), [0, 3, 0, 103, 3])
        self.assertEqual(settled(setting, *[[place] for place in range(8)]), [0, 0, 0, 0, 0, 0, 1, 1])
        self.assertEqual(last(*setting, (SETTLE, 0, 1)), [0, 1, 6])

    def test_stuck_with_nothing_read_may_be_any(self):
        setting = one_prop(1, 2, 0, [(1, NOTHING)])
        self.assertEqual(settled(setting, [], [0], [0, 1], [0, 0, 1, 1], [0, 1, 0, 1, 1, 0]), [0] * 5)
        setting = one_prop(1, 8, 3, [(7, NOTHING)] * 24)
        self.assertEqual(settled(setting, [0], [0, 7], [0, 0, 0, 7, 7, 7]), [0] * 3)

    def test_late_reads_where_the_prop_can_have_been(self):
        # Late by 3 it tells of tick 1 next, at which the prop can have been anywhere.
        setting = one_prop(1, 6, 0, [(LOOSE, NOTHING), (5, 5), (3, 3)])
        self.assertEqual(settled(setting, [0], [1], [2], [3], [4], [5]), [0] * 6)
        setting = [(BEGIN, 1), (PROP, 6), (SENSOR, 0, 0), (SENSOR, 0, 1), (GO,)]
        setting += [(TICK, [LOOSE], [NOTHING, 0]), (TICK, [5], [5, 5]), (TICK, [3], [3, 3])]
        # With the first one late by 3 the second is fine: the prop was at 0 or 1. Stuck the first reads 3.
        self.assertEqual(settled(setting, [0], [1], [2], [3], [4], [5]), [0, 0, 1, 0, 1, 1])

    def test_for_each_tick_by_itself(self):
        # Held over ticks 1 and 2 at 0 or at 1: late by 3 it may read 0 and then 1 for all that.
        setting = [(BEGIN, 1), (PROP, 6), (SENSOR, 0, 0), (SENSOR, 0, 1), (GO,)]
        setting += [(TICK, [LOOSE], [NOTHING, 0]), (TICK, [HELD], [NOTHING, NOTHING]), (TICK, [5], [5, 5])]
        self.assertEqual(settled(setting, [0, 1], [1, 0], [0, 0], [1, 2], [2, 2]), [0, 0, 0, 1, 1])

    def test_before_the_first_tick_late_may_read_any(self):
        # Mended right now: it can't be stuck, and late by d it tells of told positions from the d-th tick on.
        setting = one_prop(1, 4, 0, [(1, 1)] * 5) + [(MEND, 0)]
        self.assertEqual(last(*setting, (WAYS, 0)), [0, 4, 0, 1, 2, 3])
        rows = [[0, 1], [0, 0, 1], [0, 0, 1, 1], [0, 1, 0, 0], [0, 1, 0, 1], [0, 1, 2, 3], [0, 1, 1, 1]]
        self.assertEqual(settled(setting, *rows), [0, 0, 1, 0, 0, 1, 1])
        self.assertEqual(last(*setting, (SETTLE, 0, 2)), [0, 0])

    def test_mended_with_a_reading_since(self):
        # Mended at tick 2; stuck from tick 3 it reads 0, late it tells of tick 3 on.
        setting = one_prop(1, 4, 0, [(1, 1)] * 2) + [(MEND, 0), (TICK, [0], [0])]
        self.assertEqual(last(*setting, (WAYS, 0)), [0, 5, 0, 103, 1, 2, 3])
        rows = [[1], [1, 1], [1, 1, 1], [1, 1, 0], [0, 1, 1], [1, 2, 3], [1, 0, 2]]
        # Late by 1 it reads 0 at tick 4, late by 2 at tick 5, late by 3 at tick 6.
        self.assertEqual(settled(setting, *rows), [0, 0, 1, 0, 1, 1, 1])

    def test_mended_with_nothing_read_since(self):
        setting = one_prop(1, 4, 0, [(1, 1)] * 2) + [(MEND, 0), (TICK, [0], [NOTHING])]
        self.assertEqual(settled(setting, [1, 1, 1], [3, 2, 1, 0, 1, 2]), [0, 0])

    def test_of_all_sensors_of_the_prop(self):
        # Either the first is stuck at 0, or the second is stuck at 1 or late by 3.
        setting = [(BEGIN, 1), (PROP, 4), (SENSOR, 0, 0), (SENSOR, 0, 0), (GO,)]
        setting += [(TICK, [place], [place, place]) for place in (1, 2, 3)] + [(TICK, [LOOSE], [0, 1])]
        self.assertEqual(last(*setting, (WAYS, 0)), [0, 3, 0, 104, 0, 3, 104, 0])
        # No position is 0 and 1 at once, so any tells.
        self.assertEqual(settled(setting, [], [0], [1], [2], [3]), [0, 1, 1, 1, 1])
        found = [last(*setting, (SETTLE, sensor, 1)) for sensor in (0, 1)]
        self.assertEqual(found, [[0, 1, 0], [0, 1, 0]])

    def test_a_sensor_that_is_at_fault_in_all_tells_nothing(self):
        setting = [(BEGIN, 2), (PROP, 4), (SENSOR, 0, 0), (SENSOR, 0, 3), (GO,)]
        setting += [(TICK, [place], [place, 9]) for place in (1, 1, 1)] + [(TICK, [2], [2, 9])]
        # The second is stuck at 9, the first is fine or stuck at 2; one tick at which they're apart is enough.
        self.assertEqual(last(*setting, (WAYS, 0)), [0, 2, 0, 100, 104, 100])
        self.assertEqual(settled(setting, [2], [1], [2, 2, 2], [2, 2, 0], [0, 2, 2]), [0, 1, 0, 1, 1])


if __name__ == "__main__":
    unittest.main()
