"""check, sure, vote and ways, on lines that were worked out by hand."""

import unittest

from talk import (
    ALLOW, BEGIN, CHECK, EXPLAIN, FEWEST, GO, HELD, LOOSE, MEND, NOTHING, PROP, SENSOR, SURE, TICK, VOTE, WAYS,
    followed, last, one_prop,
)


class Check(unittest.TestCase):
    # It may have been stuck from tick 3 or from tick 4.
    setting = one_prop(1, 4, 0, [(1, 1), (2, 2), (3, 3), (0, 3)])

    def checked(self, faults, course, setting=None):
        return last(*(setting or self.setting), (CHECK, 0, faults, course))

    def test_each_fault(self):
        for fault in [0, 1, 2, 3] + list(range(100, 125)):
            with self.subTest(fault=fault):
                self.assertEqual(
                    self.checked([fault], [2, 1, 2, 3, 0]), [0, int(fault in (103, 104)), int(fault != 0)])

    def test_late(self):
        setting = one_prop(0, 4, 0, [(2, 700), (3, 1), (3, 2), (0, 3)])
        for fault in (0, 1, 2, 3):
            with self.subTest(fault=fault):
                self.assertEqual(
                    self.checked([fault], [1, 2, 3, 3, 0], setting), [0, int(fault == 2), int(fault != 0)])
        self.assertEqual(self.checked([2], [2, 2, 3, 3, 0], setting), [0, 0, 1])

    def test_fine(self):
        setting = one_prop(0, 4, 1, [(LOOSE, 2), (HELD, 1), (LOOSE, 4)])
        for course, goes in (([0, 1, 1, 3], 1), ([3, 2, 2, 3], 1), ([0, 0, 0, 3], 0), ([0, 1, 1, 2], 0)):
            with self.subTest(course=course):
                self.assertEqual(self.checked([0], course, setting), [0, goes, 0])

    def test_the_course_is_one_of_the_props(self):
        setting = [(PROP, 3), (PROP, 8), (GO,)]
        setting += [(TICK, [1, HELD], []), (TICK, [HELD, LOOSE], []), (TICK, [LOOSE, 7], [])]
        for course in ([0, 1, 1, 0], [2, 1, 1, 2]):
            self.assertEqual(self.checked([], course, setting), [0, 1, 0])
        for course in ([0, 1, 0, 0], [0, 0, 0, 0], [3, 1, 1, 0], [7, 1, 1, 0], [0, 1, 1, 3], [0, 1, 1, 7]):
            with self.subTest(course=course):
                self.assertEqual(self.checked([], course, setting), [0, 0, 0])
        self.assertEqual(last(*setting, (CHECK, 1, [], [7, 7, 0, 7])), [0, 1, 0])
        self.assertEqual(last(*setting, (CHECK, 1, [], [7, 6, 0, 7])), [0, 0, 0])
        self.assertEqual(last(*setting, (CHECK, 1, [], [7, 7, 0, 6])), [0, 0, 0])

    def test_a_position_beyond_the_prop_where_any_reading_goes(self):
        for size in range(2, 9):
            for place in range(8):
                setting = [(PROP, size), (GO,)]
                with self.subTest(size=size, place=place):
                    self.assertEqual(self.checked([], [place], setting), [0, int(place < size), 0])

    def test_a_course_of_another_length(self):
        for course in ([], [2], [1, 2, 3, 0], [2, 1, 2, 3], [2, 1, 2, 3, 0, 0], [0] * 60):
            with self.subTest(course=course):
                self.assertEqual(self.checked([103], course), [0, 0, 1])

    def test_faults_of_another_length(self):
        course = [2, 1, 2, 3, 0]
        for faults, count in (([], 0), ([103, 0], 1), ([103, 103], 2), ([0, 103, 3], 2), ([103] * 60, 60)):
            with self.subTest(faults=faults):
                self.assertEqual(self.checked(faults, course), [0, 0, count])

    def test_both_of_another_length(self):
        self.assertEqual(self.checked([], []), [0, 0, 0])
        self.assertEqual(self.checked([124, 0, 2], [7]), [0, 0, 2])

    def test_in_the_order_of_the_sensors(self):
        setting = [(PROP, 4), (PROP, 4), (SENSOR, 0, 0), (SENSOR, 1, 0), (SENSOR, 0, 0), (GO,)]
        setting += [(TICK, [1, 1], [1, 1, 3])]
        self.assertEqual(self.checked([0, 100], [0, 1], setting), [0, 1, 1])
        self.assertEqual(self.checked([100, 0], [0, 1], setting), [0, 0, 1])
        self.assertEqual(self.checked([0, 0], [0, 1], setting), [0, 0, 0])
        self.assertEqual(last(*setting, (CHECK, 1, [0], [0, 1])), [0, 1, 0])
        self.assertEqual(last(*setting, (CHECK, 1, [0, 100], [0, 1])), [0, 0, 1])

    def test_more_faults_than_the_most(self):
        setting = [(PROP, 4)] + [(SENSOR, 0, 0)] * 4 + [(GO,), (TICK, [1], [1, 1, 3, 1])]
        self.assertEqual(self.checked([2, 100, 1, 3], [3, 1], setting), [0, 1, 4])

    def test_where_nothing_can_be(self):
        setting = one_prop(0, 4, 0, [(1, 3)])
        self.assertEqual(last(*setting, (FEWEST,)), [-4])
        self.assertEqual(self.checked([100], [0, 1], setting), [0, 1, 1])
        self.assertEqual(self.checked([0], [0, 1], setting), [0, 0, 0])

    def test_stuck_behind_now(self):
        for now in (0, 1, 23):
            setting = one_prop(1, 4, 0, [(1, 1)] * now)
            course = [1] * (now + 1)
            with self.subTest(now=now):
                self.assertEqual(self.checked([100 + now], course, setting), [0, 1, 1])
                self.assertEqual(self.checked([101 + now], course, setting), [0, 0, 1])
                self.assertEqual(self.checked([124], course, setting), [0, 0, 1])
        setting = one_prop(1, 4, 0, [(1, 1)] * 24)
        self.assertEqual(self.checked([124], [1] * 25, setting), [0, 1, 1])

    def test_of_a_mended_sensor(self):
        setting = one_prop(1, 4, 0, [(1, 3)]) + [(MEND, 0)]
        for fault, goes in ((0, 1), (1, 1), (2, 1), (3, 1), (100, 0), (101, 0), (102, 0), (103, 0)):
            with self.subTest(fault=fault):
                self.assertEqual(self.checked([fault], [0, 1], setting), [0, goes, int(fault != 0)])
        setting.append((TICK, [2], [NOTHING]))
        for fault, goes in ((100, 0), (101, 0), (102, 1), (103, 0)):
            with self.subTest(fault=fault):
                self.assertEqual(self.checked([fault], [0, 1, 2], setting), [0, goes, 1])
        setting.append((TICK, [3], [2]))
        for fault, goes in ((0, 0), (1, 1), (2, 1), (101, 0), (102, 1), (103, 1), (104, 0)):
            with self.subTest(fault=fault):
                self.assertEqual(self.checked([fault], [0, 1, 2, 3], setting), [0, goes, int(fault != 0)])

    def test_it_takes_what_explain_tells(self):
        found = followed(self.setting, [(EXPLAIN, 0), (CHECK, 0, [103], [0, 1, 2, 3, 0])])
        self.assertEqual(found, [[0, 103, 0, 1, 2, 3, 0], [0, 1, 1]])


class Sure(unittest.TestCase):
    def test_none(self):
        self.assertEqual(last((PROP, 2), (GO,), (SURE,)), [0])
        self.assertEqual(last(*one_prop(1, 2, 0, [(0, 0)]), (SURE,)), [0])

    def test_of_several_props_ascending(self):
        setting = [(BEGIN, 2), (PROP, 4), (PROP, 4)] + [(SENSOR, turn % 2, 0) for turn in (1, 0, 1, 0, 1)] + [(GO,)]
        self.assertEqual(followed(setting, [(TICK, [1, 1], [1, 3, 1, 1, 2]), (SURE,)])[1], [0, 1, 4])
        self.assertEqual(followed(setting, [(TICK, [1, 1], [3, 3, 1, 1, 1]), (SURE,)])[1], [0, 0, 1])

    def test_of_two_that_disagree_neither_is_sure(self):
        setting = [(BEGIN, 1), (PROP, 4)] + [(SENSOR, 0, 0)] * 2 + [(GO,), (TICK, [LOOSE], [1, 2])]
        self.assertEqual(last(*setting, (SURE,)), [0])
        setting = [(BEGIN, 1), (PROP, 4)] + [(SENSOR, 0, 0)] * 3 + [(GO,), (TICK, [LOOSE], [1, 2, 1])]
        self.assertEqual(last(*setting, (SURE,)), [0, 1])
        # With two faults it may be both of the others.
        self.assertEqual(followed(setting, [(ALLOW, 2), (SURE,)]), [[0], [0]])

    def test_one_props_faults_make_another_sure_to_be_fine(self):
        setting = [(BEGIN, 1), (PROP, 4), (PROP, 4), (SENSOR, 0, 0), (SENSOR, 1, 0), (GO,), (TICK, [1, LOOSE], [2, 3])]
        self.assertEqual(last(*setting, (SURE,)), [0, 0])

    def test_nothing_can_be(self):
        self.assertEqual(last(*one_prop(0, 4, 0, [(1, 2)]), (SURE,)), [-4])

    def test_behind_mend_and_allow(self):
        setting = one_prop(1, 4, 0, [(1, 2)])
        self.assertEqual(
            followed(setting, [(SURE,), (ALLOW, 0), (SURE,), (MEND, 0), (SURE,)]), [[0, 0], [0], [-4], [0], [0]])


class Vote(unittest.TestCase):
    def voted(self, *readings):
        setting = [(PROP, 2)] + [(SENSOR, 0, 0)] * len(readings) + [(GO,), (TICK, [0], list(readings))]
        return last(*setting, (VOTE, 0))

    def test_an_odd_number(self):
        self.assertEqual(self.voted(5), [0, 5, 1, 1])
        self.assertEqual(self.voted(9, 4, 7), [0, 7, 3, 1])
        self.assertEqual(self.voted(9, 4, 4), [0, 4, 3, 2])
        self.assertEqual(self.voted(0, 1000, 0), [0, 0, 3, 2])
        self.assertEqual(self.voted(8, 8, 8), [0, 8, 3, 3])

    def test_an_even_number(self):
        self.assertEqual(self.voted(9, 4), [0, 4, 2, 1])
        self.assertEqual(self.voted(4, 9), [0, 4, 2, 1])
        self.assertEqual(self.voted(6, 6), [0, 6, 2, 2])
        self.assertEqual(self.voted(5, 1, 3, 1), [0, 1, 4, 2])
        self.assertEqual(self.voted(1000, 10, 9, 100), [0, 10, 4, 1])
        self.assertEqual(self.voted(2, 3, 3, 3), [0, 3, 4, 3])

    def test_those_that_read_nothing_are_left_out(self):
        self.assertEqual(self.voted(NOTHING, 3, NOTHING), [0, 3, 1, 1])
        self.assertEqual(self.voted(NOTHING, 3, 1, 2), [0, 2, 3, 1])
        self.assertEqual(self.voted(7, NOTHING, 0, 7), [0, 7, 3, 2])
        self.assertEqual(self.voted(8, NOTHING, NOTHING, 2), [0, 2, 2, 1])

    def test_none_reads_anything(self):
        self.assertEqual(self.voted(NOTHING, NOTHING, NOTHING), [-4])
        self.assertEqual(self.voted(), [-4])
        self.assertEqual(last(*one_prop(0, 2, 0, []), (VOTE, 0)), [-4])

    def test_only_what_is_read_now(self):
        setting = one_prop(0, 2, 0, [(0, 0)])
        self.assertEqual(followed(setting, [(TICK, [0], [NOTHING]), (VOTE, 0)])[1], [-4])
        self.assertEqual(followed(setting, [(TICK, [0], [1]), (VOTE, 0)])[1], [0, 1, 1, 1])

    def test_only_the_props_own_sensors(self):
        setting = [(PROP, 2), (PROP, 2), (PROP, 2), (SENSOR, 1, 0), (SENSOR, 0, 0), (SENSOR, 1, 0), (GO,)]
        setting += [(TICK, [0, 0, 0], [5, 8, 6])]
        self.assertEqual(followed(setting, [(VOTE, prop) for prop in range(3)]), [[0, 8, 1, 1], [0, 5, 2, 1], [-4]])

    def test_what_was_forgotten_is_not_read(self):
        setting = [(PROP, 2)] + [(SENSOR, 0, 0)] * 2 + [(GO,), (TICK, [0], [1, 2])]
        self.assertEqual(followed(setting, [(MEND, 0), (VOTE, 0), (MEND, 1), (VOTE, 0)])[1::2], [[0, 2, 1, 1], [-4]])
        self.assertEqual(followed(setting, [(MEND, 0), (TICK, [0], [7, 7]), (VOTE, 0)])[2], [0, 7, 2, 2])


class Ways(unittest.TestCase):
    def test_a_prop_without_sensors(self):
        self.assertEqual(last((BEGIN, 2), (PROP, 2), (GO,), (WAYS, 0)), [0, 1])

    def test_of_one_sensor(self):
        self.assertEqual(last(*one_prop(0, 3, 0, []), (WAYS, 0)), [0, 1, 0])
        self.assertEqual(last(*one_prop(1, 3, 0, []), (WAYS, 0)), [0, 5, 0, 100, 1, 2, 3])
        self.assertEqual(last(*one_prop(1, 3, 0, [(0, 2)]), (WAYS, 0)), [0, 4, 100, 1, 2, 3])
        self.assertEqual(last(*one_prop(1, 4, 0, [(1, 1), (2, 2), (3, 3), (0, 3)]), (WAYS, 0)), [0, 1, 103])

    def test_their_order(self):
        setting = [(BEGIN, 1), (PROP, 3)] + [(SENSOR, 0, 0)] * 2 + [(GO,)]
        pairs = [0, 0, 0, 100, 0, 1, 0, 2, 0, 3, 100, 0, 1, 0, 2, 0, 3, 0]
        self.assertEqual(last(*setting, (WAYS, 0)), [0, 9] + pairs)
        every = [fault for first in (0, 100, 1, 2, 3) for second in (0, 100, 1, 2, 3) for fault in (first, second)]
        self.assertEqual(followed(setting, [(ALLOW, 2), (WAYS, 0)])[1], [0, 25] + every)

    def test_stuck_from_the_first_tick_from_which_it_can_be(self):
        setting = one_prop(1, 8, 0, [(1, 1), (2, 2), (2, NOTHING), (2, 2), (2, NOTHING)])
        self.assertEqual(last(*setting, (WAYS, 0)), [0, 3, 0, 102, 2])

    def test_no_more_faults_than_the_other_props_leave(self):
        setting = [(BEGIN, 1), (PROP, 3), (PROP, 3), (SENSOR, 1, 0), (SENSOR, 0, 0), (GO,), (TICK, [0, 0], [0, 1])]
        asked = [(WAYS, 0), (WAYS, 1)]
        self.assertEqual(followed(setting, asked), [[0, 4, 100, 1, 2, 3], [0, 1, 0]])
        self.assertEqual(
            followed(setting, [(ALLOW, 2)] + asked)[1:], [[0, 4, 100, 1, 2, 3], [0, 5, 0, 100, 1, 2, 3]])

    def test_nothing_can_be(self):
        setting = [(PROP, 3), (PROP, 3), (SENSOR, 1, 0), (GO,), (TICK, [0, 0], [1])]
        self.assertEqual(followed(setting, [(WAYS, 0), (WAYS, 1)]), [[0, 0], [0, 0]])


if __name__ == "__main__":
    unittest.main()
