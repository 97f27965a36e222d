"""Each refusal of each call, those due at once, and that all is as it was."""

import unittest

from talk import (
    ALLOW, BEGIN, BLAME, CHECK, EXPLAIN, FARTHEST, FEWEST, GO, HELD, LOOSE, MEND, NOTHING, PROP, READS, SENSOR,
    SETTLE, SETTLES, SINCE, STATE, SURE, TICK, VOTE, WAYS, WHERE, followed, talk,
)

FAR = (-FARTHEST, FARTHEST)

EMPTY = [(BEGIN, 2)]
READY = [(BEGIN, 1), (PROP, 4), (PROP, 2), (SENSOR, 0, 1), (SENSOR, 1, 0), (SENSOR, 0, 0)]
BEGUN = READY + [(GO,), (TICK, [2, LOOSE], [2, 1, 3]), (TICK, [HELD, 0], [NOTHING, 0, 3])]
NEW = READY + [(GO,)]
BROKEN = READY + [(GO,), (TICK, [0, 0], [9, 9, 0]), (TICK, [0, 0], [8, 8, 9])]
MENDED = BEGUN + [(MEND, 0)]
LAST = NEW + [(TICK, [LOOSE, LOOSE], [1, 1, NOTHING])] * 24
FULL = [(BEGIN, 2)] + [(PROP, 3)] * 4 + [(SENSOR, 2, 0)] * 4 + [(SENSOR, 1, 0)] * 4
FULL_BEGUN = FULL + [(GO,), (TICK, [0, 1, 2, HELD], [2] * 4 + [1] * 3 + [2])]
FOUR_OF_ONE = [(PROP, 3)] * 2 + [(SENSOR, 1, 0)] * 4
ALONE = [(PROP, 5)]
ALONE_BEGUN = [(PROP, 5), (GO,)]

SETTINGS = (EMPTY, READY, BEGUN, NEW, BROKEN, MENDED, LAST, FULL, FULL_BEGUN, FOUR_OF_ONE, ALONE, ALONE_BEGUN)
# Those with the props and sensors of READY that have begun.
BEGUN_ONES = (NEW, BEGUN, BROKEN, MENDED, LAST)
UNBEGUN = (EMPTY, READY, FULL, FOUR_OF_ONE, ALONE)


def what_can_be(props, sensors):
    calls = [(FEWEST,)]
    for prop in range(props):
        calls += [(WHERE, prop, tick) for tick in (0, 1, 2, 3, 24)] + [(EXPLAIN, prop)]
    for sensor in range(sensors):
        calls += [(BLAME, sensor), (SINCE, sensor)]
    return calls


def what_was_told(props, sensors):
    calls = [(STATE,), (SURE,)]
    calls += [(call, prop) for prop in range(props) for call in (VOTE, WAYS)]
    return calls + [(READS, sensor) for sensor in range(sensors)]


def probes(setting, asked):
    """Calls behind which nothing of the line is hidden."""
    props = len([call for call in setting if call[0] == PROP])
    sensors = len([call for call in setting if call[0] == SENSOR])
    calls = asked(props, sensors)
    if (GO,) not in setting:
        calls += [(PROP, 7)] + [(SENSOR, prop, 1) for prop in range(props)] + [(GO,)]
        return calls + asked(props, sensors)
    calls += [(GO,), (PROP, 3), (SENSOR, 0, 0), (TICK, [HELD] * props, [1] * sensors)]
    return calls + asked(props, sensors)


class Refused(unittest.TestCase):
    def refused(self, refusal, setting, calls):
        # A line has at most 120 calls, and at most three of them settle.
        length = 3 if calls[0][0] == SETTLE else 8
        for start in range(0, len(calls), length):
            part = calls[start:start + length]
            for asked in (what_can_be, what_was_told):
                later = probes(setting, asked)
                found = followed(setting, part + later)
                self.assertEqual(found[:len(part)], [[refusal]] * len(part), part)
                self.assertEqual(found[len(part):], followed(setting, later), part)

    def test_begin_numbers(self):
        calls = [(BEGIN, most) for most in (-1, 3, 100) + FAR]
        for setting in SETTINGS:
            self.refused(-1, setting, calls)

    def test_prop_numbers(self):
        calls = [(PROP, size) for size in (1, 9, 0, -1, -2, 10) + FAR]
        for setting in SETTINGS:
            self.refused(-1, setting, calls)

    def test_prop_time(self):
        for setting in (NEW, BEGUN, BROKEN, LAST, FULL_BEGUN, ALONE_BEGUN):
            self.refused(-3, setting, [(PROP, 2), (PROP, 8)])

    def test_prop_place(self):
        self.refused(-5, FULL, [(PROP, 2), (PROP, 8)])

    def test_sensor_numbers(self):
        for setting in (READY, BEGUN, BROKEN, FOUR_OF_ONE):
            calls = [(SENSOR, prop, 0) for prop in (-1, 2) + FAR]
            calls += [(SENSOR, prop, error) for prop in (0, 1) for error in (-1, 4) + FAR]
            self.refused(-1, setting, calls)
        for setting in (FULL, FULL_BEGUN):
            self.refused(-1, setting, [(SENSOR, -1, 0), (SENSOR, 4, 0), (SENSOR, 0, -1), (SENSOR, 2, 4)])
        self.refused(-1, EMPTY, [(SENSOR, 0, 0), (SENSOR, -1, 3)])

    def test_sensor_time(self):
        for setting in (NEW, BEGUN, BROKEN, LAST, FULL_BEGUN):
            self.refused(-3, setting, [(SENSOR, 0, 0), (SENSOR, 1, 3)])
        self.refused(-3, FULL_BEGUN, [(SENSOR, 2, 0), (SENSOR, 3, 0)])

    def test_sensor_place(self):
        self.refused(-5, FULL, [(SENSOR, prop, 0) for prop in range(4)])
        self.refused(-5, FOUR_OF_ONE, [(SENSOR, 1, 0), (SENSOR, 1, 3)])
        self.assertEqual(followed(FOUR_OF_ONE, [(SENSOR, 1, 0), (SENSOR, 0, 0)]), [[-5], [0, 4]])

    def test_go_time(self):
        for setting in (NEW, BEGUN, BROKEN, LAST, FULL_BEGUN, ALONE_BEGUN):
            self.refused(-3, setting, [(GO,)])

    def test_go_without_props(self):
        self.refused(-4, EMPTY, [(GO,)])
        self.assertEqual(talk((GO,), (PROP, 2), (GO,)), [[-4], [0, 0], [0]])

    def test_tick_moves(self):
        for setting in (READY, NEW, BEGUN, BROKEN, LAST):
            rows = [[], [0], [0, 0, 0], [0] * 60]
            rows += [[place, 0] for place in (-3, 4) + FAR] + [[0, place] for place in (-3, 2, 3) + FAR]
            self.refused(-1, setting, [(TICK, row, [1, 1, 1]) for row in rows])

    def test_tick_readings(self):
        for setting in (READY, NEW, BEGUN, BROKEN, LAST):
            rows = [[], [1], [1, 1], [1] * 4, [1] * 60]
            for number in (-2, 1001) + FAR:
                rows += [[number, 1, 1], [1, number, 1], [1, 1, number]]
            self.refused(-1, setting, [(TICK, [0, 0], row) for row in rows])

    def test_tick_of_a_line_without_sensors(self):
        calls = [(TICK, [0], [0]), (TICK, [], []), (TICK, [0, 0], []), (TICK, [5], []), (TICK, [-3], [])]
        self.refused(-1, ALONE_BEGUN, calls)
        self.refused(-1, ALONE, calls)
        self.refused(-3, ALONE, [(TICK, [0], [])])

    def test_tick_time(self):
        self.refused(-3, READY, [(TICK, [0, 1], [1, 1, 1]), (TICK, [HELD, LOOSE], [NOTHING, 0, 1000])])
        self.refused(-3, EMPTY, [(TICK, [], [])])
        self.refused(-1, EMPTY, [(TICK, [0], []), (TICK, [], [0])])

    def test_tick_place(self):
        self.refused(-5, LAST, [(TICK, [0, 1], [1, 1, 1]), (TICK, [HELD, LOOSE], [NOTHING, 0, 1000])])

    def test_where_numbers(self):
        for setting, now in ((BEGUN, 2), (NEW, 0), (BROKEN, 2), (LAST, 24), (READY, 0)):
            calls = [(WHERE, prop, 0) for prop in (-1, 2) + FAR]
            calls += [(WHERE, 0, tick) for tick in (-1, now + 1) + FAR]
            self.refused(-1, setting, calls)
        self.refused(-1, EMPTY, [(WHERE, 0, 0)])

    def test_where_time(self):
        self.refused(-3, READY, [(WHERE, 0, 0), (WHERE, 1, 0)])

    def test_sensors_asked_numbers(self):
        for setting in (READY, NEW, BEGUN, BROKEN, LAST):
            for call in (BLAME, SINCE):
                self.refused(-1, setting, [(call, sensor) for sensor in (-1, 3) + FAR])
        for setting in (EMPTY, ALONE, ALONE_BEGUN):
            self.refused(-1, setting, [(BLAME, 0), (SINCE, 0)])

    def test_sensors_asked_time(self):
        self.refused(-3, READY, [(call, sensor) for call in (BLAME, SINCE) for sensor in range(3)])

    def test_fewest_time(self):
        for setting in (EMPTY, READY, FULL, FOUR_OF_ONE, ALONE):
            self.refused(-3, setting, [(FEWEST,)])

    def test_fewest_where_nothing_can_be(self):
        self.refused(-4, BROKEN, [(FEWEST,)])

    def test_explain_numbers(self):
        for setting in (READY, NEW, BEGUN, BROKEN, LAST):
            self.refused(-1, setting, [(EXPLAIN, prop) for prop in (-1, 2) + FAR])
        self.refused(-1, EMPTY, [(EXPLAIN, 0)])

    def test_explain_time(self):
        self.refused(-3, READY, [(EXPLAIN, 0), (EXPLAIN, 1)])

    def test_explain_where_nothing_can_be(self):
        self.refused(-4, BROKEN, [(EXPLAIN, 0), (EXPLAIN, 1)])

    def test_check_numbers(self):
        for setting in (READY,) + BEGUN_ONES:
            calls = [(CHECK, prop, [0, 0], [0]) for prop in (-1, 2) + FAR]
            for number in (-1, 4, 5, 50, 99, 125, 200) + FAR:
                calls += [(CHECK, 0, row, [0]) for row in ([number, 0], [0, number], [0, 0, number], [number])]
            for number in (-1, 8, 9) + FAR:
                calls += [(CHECK, 1, [0], row) for row in ([number], [0, number], [number] + [0] * 59)]
            self.refused(-1, setting, calls)
        for setting in (EMPTY, ALONE, ALONE_BEGUN):
            self.refused(-1, setting, [(CHECK, 1, [], []), (CHECK, 0, [4], []), (CHECK, 0, [], [8])])

    def test_check_time(self):
        rows = [([0, 0], [0]), ([], []), ([124] * 60, [7] * 60), ([100, 3], [1, 2])]
        self.refused(-3, READY, [(CHECK, 0, faults, course) for faults, course in rows])

    def test_sure_time(self):
        for setting in UNBEGUN:
            self.refused(-3, setting, [(SURE,)])

    def test_sure_where_nothing_can_be(self):
        self.refused(-4, BROKEN, [(SURE,)])

    def test_props_asked_numbers(self):
        for call in (VOTE, WAYS):
            for setting in (READY,) + BEGUN_ONES:
                self.refused(-1, setting, [(call, prop) for prop in (-1, 2) + FAR])
            self.refused(-1, EMPTY, [(call, 0)])
            self.refused(-1, ALONE_BEGUN, [(call, 1)])

    def test_props_asked_time(self):
        self.refused(-3, READY, [(call, prop) for call in (VOTE, WAYS) for prop in (0, 1)])

    def test_vote_where_none_reads(self):
        self.refused(-4, NEW, [(VOTE, 0), (VOTE, 1)])
        self.refused(-4, ALONE_BEGUN, [(VOTE, 0)])
        self.refused(-4, FULL_BEGUN, [(VOTE, 0), (VOTE, 3)])
        setting = BEGUN + [(TICK, [0, 0], [NOTHING, 1, NOTHING])]
        self.refused(-4, setting, [(VOTE, 0)])
        self.refused(-4, BEGUN + [(MEND, 1)], [(VOTE, 1)])

    def test_vote_and_ways_where_nothing_can_be(self):
        asked = [(VOTE, 0), (VOTE, 1), (WAYS, 0), (WAYS, 1)]
        self.assertEqual(followed(BROKEN, asked), [[0, 8, 2, 1], [0, 8, 1, 1], [0, 0], [0, 0]])

    def test_settle_numbers(self):
        for setting in (READY,) + BEGUN_ONES:
            calls = [(SETTLE, sensor, 1) for sensor in (-1, 3) + FAR]
            calls += [(SETTLE, 0, count) for count in (-1, 3, 6) + FAR]
            self.refused(-1, setting, calls + [(SETTLE, 3, 3), (SETTLE, -FARTHEST, FARTHEST)])
        for setting in (EMPTY, ALONE, ALONE_BEGUN):
            self.refused(-1, setting, [(SETTLE, 0, 0)])

    def test_settle_time(self):
        self.refused(-3, READY, [(SETTLE, sensor, count) for sensor in range(3) for count in range(3)])

    def test_settles_numbers(self):
        for setting in (READY,) + BEGUN_ONES:
            calls = [(SETTLES, sensor, []) for sensor in (-1, 3) + FAR]
            for number in (-1, -2) + FAR:
                calls += [(SETTLES, sensor, [0] * 5 + [number]) for sensor in range(3)]
            # The positions are those of the sensor's own prop.
            calls += [(SETTLES, 0, [4]), (SETTLES, 0, [0, 4, 0]), (SETTLES, 1, [2]), (SETTLES, 1, [1, 3])]
            calls += [(SETTLES, sensor, [0] * length) for sensor in range(3) for length in (7, 8, 60)]
            self.refused(-1, setting, calls)
        for setting in (EMPTY, ALONE, ALONE_BEGUN):
            self.refused(-1, setting, [(SETTLES, 0, []), (SETTLES, 0, [0])])

    def test_settles_edges(self):
        asked = [(SETTLES, 0, [3] * 6), (SETTLES, 1, [1] * 6), (SETTLES, 2, [])]
        for setting in BEGUN_ONES:
            self.assertEqual([answer[0] for answer in followed(setting, asked)], [0, 0, 0])

    def test_settles_time(self):
        self.refused(-3, READY, [(SETTLES, 0, [3] * 6), (SETTLES, 1, [1] * 6), (SETTLES, 2, [])])

    def test_mend_and_reads_numbers(self):
        for call in (MEND, READS):
            for setting in (READY,) + BEGUN_ONES:
                self.refused(-1, setting, [(call, sensor) for sensor in (-1, 3) + FAR])
            for setting in (EMPTY, ALONE, ALONE_BEGUN):
                self.refused(-1, setting, [(call, 0)])

    def test_mend_and_reads_time(self):
        self.refused(-3, READY, [(call, sensor) for call in (MEND, READS) for sensor in range(3)])

    def test_allow_numbers(self):
        for setting in SETTINGS:
            self.refused(-1, setting, [(ALLOW, most) for most in (-1, 3, 100) + FAR])

    def test_allow_and_state_at_any_time(self):
        for setting in SETTINGS:
            for most in (0, 1, 2):
                found = followed(setting, [(ALLOW, most), (STATE,)])
                self.assertEqual((found[0], found[1][0], found[1][-1]), ([0], 0, most))

    def test_asking_changes_nothing(self):
        checks = [(CHECK, 0, [0, 0], [0, 2, 2]), (CHECK, 1, [100], [1]), (CHECK, 0, [101], [])]
        moves = [(SETTLE, 0, 1), (SETTLES, 0, [1, 0, 1]), (SETTLES, 1, [0])]
        for setting in SETTINGS:
            asked = what_can_be(2, 3)
            self.assertEqual(followed(setting, asked + asked), followed(setting, asked) * 2)
            for others in (asked, what_was_told(2, 3) + checks + moves):
                for kind in (what_can_be, what_was_told):
                    later = probes(setting, kind)
                    self.assertEqual(followed(setting, others + later)[len(others):], followed(setting, later))


if __name__ == "__main__":
    unittest.main()
