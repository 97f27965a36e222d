"""Each refusal of each call, those due at once, and that all is as it was."""

import unittest

from talk import (
    BEGIN, BLAME, EXPLAIN, FARTHEST, FEWEST, GO, HELD, LOOSE, NOTHING, PROP, SENSOR, SINCE, TICK, WHERE,
    followed, talk,
)

FAR = (-FARTHEST, FARTHEST)

EMPTY = [(BEGIN, 2)]
READY = [(BEGIN, 1), (PROP, 4), (PROP, 2), (SENSOR, 0, 1), (SENSOR, 1, 0), (SENSOR, 0, 0)]
BEGUN = READY + [(GO,), (TICK, [2, LOOSE], [2, 1, 3]), (TICK, [HELD, 0], [NOTHING, 0, 3])]
NEW = READY + [(GO,)]
BROKEN = READY + [(GO,), (TICK, [0, 0], [9, 9, 0]), (TICK, [0, 0], [8, 8, 9])]
LAST = NEW + [(TICK, [LOOSE, LOOSE], [1, 1, NOTHING])] * 24
FULL = [(BEGIN, 2)] + [(PROP, 3)] * 4 + [(SENSOR, 2, 0)] * 4 + [(SENSOR, 1, 0)] * 4
FULL_BEGUN = FULL + [(GO,), (TICK, [0, 1, 2, HELD], [2] * 4 + [1] * 3 + [2])]
FOUR_OF_ONE = [(PROP, 3)] * 2 + [(SENSOR, 1, 0)] * 4
ALONE = [(PROP, 5)]
ALONE_BEGUN = [(PROP, 5), (GO,)]

SETTINGS = (EMPTY, READY, BEGUN, NEW, BROKEN, LAST, FULL, FULL_BEGUN, FOUR_OF_ONE, ALONE, ALONE_BEGUN)


def everything_asked(props, sensors):
    calls = [(FEWEST,)]
    for prop in range(props):
        calls += [(WHERE, prop, tick) for tick in (0, 1, 2, 3, 24)] + [(EXPLAIN, prop)]
    for sensor in range(sensors):
        calls += [(BLAME, sensor), (SINCE, sensor)]
    return calls


def probes(setting):
    """Calls behind which nothing of the line is hidden."""
    props = len([call for call in setting if call[0] == PROP])
    sensors = len([call for call in setting if call[0] == SENSOR])
    calls = everything_asked(props, sensors)
    if (GO,) not in setting:
        calls += [(PROP, 7)] + [(SENSOR, prop, 1) for prop in range(props)] + [(GO,)]
        return calls + everything_asked(props, sensors)
    calls += [(GO,), (PROP, 3), (SENSOR, 0, 0), (TICK, [HELD] * props, [1] * sensors)]
    return calls + everything_asked(props, sensors)


class Refused(unittest.TestCase):
    def refused(self, refusal, setting, calls):
        before = followed(setting, probes(setting))
        for call in calls:
            with self.subTest(call=call):
                found = followed(setting, [call] + probes(setting))
                self.assertEqual(found[0], [refusal])
                self.assertEqual(found[1:], before)

    def test_begin_numbers(self):
        calls = [(BEGIN, most) for most in (-1, 3, 100) + FAR]
        for setting in SETTINGS:
            self.refused(-1, setting, calls)

    def test_prop_numbers(self):
        calls = [(PROP, size) for size in (1, 9, 0, -1, -2, 10) + FAR]
        for setting in SETTINGS:
            self.refused(-1, setting, calls)

    def test_prop_time(self):
        for setting in (NEW, BEGUN, BROKEN, LAST, FULL_BEGUN, ALONE_BEGUN):
            self.refused(-3, setting, [(PROP, 2), (PROP, 8)])

    def test_prop_place(self):
        self.refused(-5, FULL, [(PROP, 2), (PROP, 8)])

    def test_sensor_numbers(self):
        for setting in (READY, BEGUN, BROKEN, FOUR_OF_ONE):
            calls = [(SENSOR, prop, 0) for prop in (-1, 2) + FAR]
            calls += [(SENSOR, prop, error) for prop in (0, 1) for error in (-1, 4) + FAR]
            self.refused(-1, setting, calls)
        for setting in (FULL, FULL_BEGUN):
            self.refused(-1, setting, [(SENSOR, -1, 0), (SENSOR, 4, 0), (SENSOR, 0, -1), (SENSOR, 2, 4)])
        self.refused(-1, EMPTY, [(SENSOR, 0, 0), (SENSOR, -1, 3)])

    def test_sensor_time(self):
        for setting in (NEW, BEGUN, BROKEN, LAST, FULL_BEGUN):
            self.refused(-3, setting, [(SENSOR, 0, 0), (SENSOR, 1, 3)])
        self.refused(-3, FULL_BEGUN, [(SENSOR, 2, 0), (SENSOR, 3, 0)])

    def test_sensor_place(self):
        self.refused(-5, FULL, [(SENSOR, prop, 0) for prop in range(4)])
        self.refused(-5, FOUR_OF_ONE, [(SENSOR, 1, 0), (SENSOR, 1, 3)])
        self.assertEqual(followed(FOUR_OF_ONE, [(SENSOR, 1, 0), (SENSOR, 0, 0)]), [[-5], [0, 4]])

    def test_go_time(self):
        for setting in (NEW, BEGUN, BROKEN, LAST, FULL_BEGUN, ALONE_BEGUN):
            self.refused(-3, setting, [(GO,)])

    def test_go_without_props(self):
        self.refused(-4, EMPTY, [(GO,)])
        self.assertEqual(talk((GO,), (PROP, 2), (GO,)), [[-4], [0, 0], [0]])

    def test_tick_moves(self):
        for setting in (READY, NEW, BEGUN, BROKEN, LAST):
            rows = [[], [0], [0, 0, 0], [0] * 60]
            rows += [[place, 0] for place in (-3, 4) + FAR] + [[0, place] for place in (-3, 2, 3) + FAR]
            self.refused(-1, setting, [(TICK, row, [1, 1, 1]) for row in rows])

    def test_tick_readings(self):
        for setting in (READY, NEW, BEGUN, BROKEN, LAST):
            rows = [[], [1], [1, 1], [1] * 4, [1] * 60]
            for number in (-2, 1001) + FAR:
                rows += [[number, 1, 1], [1, number, 1], [1, 1, number]]
            self.refused(-1, setting, [(TICK, [0, 0], row) for row in rows])

    def test_tick_of_a_line_without_sensors(self):
        calls = [(TICK, [0], [0]), (TICK, [], []), (TICK, [0, 0], []), (TICK, [5], []), (TICK, [-3], [])]
        self.refused(-1, ALONE_BEGUN, calls)
        self.refused(-1, ALONE, calls)
        self.refused(-3, ALONE, [(TICK, [0], [])])

    def test_tick_time(self):
        self.refused(-3, READY, [(TICK, [0, 1], [1, 1, 1]), (TICK, [HELD, LOOSE], [NOTHING, 0, 1000])])
        self.refused(-3, EMPTY, [(TICK, [], [])])
        self.refused(-1, EMPTY, [(TICK, [0], []), (TICK, [], [0])])

    def test_tick_place(self):
        self.refused(-5, LAST, [(TICK, [0, 1], [1, 1, 1]), (TICK, [HELD, LOOSE], [NOTHING, 0, 1000])])

    def test_where_numbers(self):
        for setting, now in ((BEGUN, 2), (NEW, 0), (BROKEN, 2), (LAST, 24), (READY, 0)):
            calls = [(WHERE, prop, 0) for prop in (-1, 2) + FAR]
            calls += [(WHERE, 0, tick) for tick in (-1, now + 1) + FAR]
            self.refused(-1, setting, calls)
        self.refused(-1, EMPTY, [(WHERE, 0, 0)])

    def test_where_time(self):
        self.refused(-3, READY, [(WHERE, 0, 0), (WHERE, 1, 0)])

    def test_sensors_asked_numbers(self):
        for setting in (READY, NEW, BEGUN, BROKEN, LAST):
            for call in (BLAME, SINCE):
                self.refused(-1, setting, [(call, sensor) for sensor in (-1, 3) + FAR])
        for setting in (EMPTY, ALONE, ALONE_BEGUN):
            self.refused(-1, setting, [(BLAME, 0), (SINCE, 0)])

    def test_sensors_asked_time(self):
        self.refused(-3, READY, [(call, sensor) for call in (BLAME, SINCE) for sensor in range(3)])

    def test_fewest_time(self):
        for setting in (EMPTY, READY, FULL, FOUR_OF_ONE, ALONE):
            self.refused(-3, setting, [(FEWEST,)])

    def test_fewest_where_nothing_can_be(self):
        self.refused(-4, BROKEN, [(FEWEST,)])

    def test_explain_numbers(self):
        for setting in (READY, NEW, BEGUN, BROKEN, LAST):
            self.refused(-1, setting, [(EXPLAIN, prop) for prop in (-1, 2) + FAR])
        self.refused(-1, EMPTY, [(EXPLAIN, 0)])

    def test_explain_time(self):
        self.refused(-3, READY, [(EXPLAIN, 0), (EXPLAIN, 1)])

    def test_explain_where_nothing_can_be(self):
        self.refused(-4, BROKEN, [(EXPLAIN, 0), (EXPLAIN, 1)])

    def test_asking_changes_nothing(self):
        for setting in SETTINGS:
            asked = everything_asked(2, 3)
            self.assertEqual(followed(setting, asked + asked), followed(setting, asked) * 2)
            later = probes(setting)
            self.assertEqual(followed(setting, asked + later)[len(asked):], followed(setting, later))


if __name__ == "__main__":
    unittest.main()
