"""begin, prop, sensor, go and tick: what they answer where they aren't refused, and their edges."""

import unittest

from talk import (
    BEGIN, BLAME, EXPLAIN, FEWEST, GO, HELD, LOOSE, NOTHING, PROP, SENSOR, SINCE, TICK, WHERE,
    followed, last, one_prop, talk,
)


class Begin(unittest.TestCase):
    def test_each_most_is_taken(self):
        self.assertEqual(talk((BEGIN, 0), (BEGIN, 1), (BEGIN, 2)), [[0], [0], [0]])

    def test_the_most_counts(self):
        # Three sensors that read far from each other: only the first `most` can be let go.
        for most in (0, 1, 2):
            for wrong in (0, 1, 2, 3):
                calls = [(BEGIN, most), (PROP, 4)] + [(SENSOR, 0, 0)] * 3
                calls += [(GO,), (TICK, [0], [9] * wrong + [0] * (3 - wrong))]
                with self.subTest(most=most, wrong=wrong):
                    self.assertEqual(last(*calls), [0, 1, 1 if wrong <= most else 0])

    def test_without_begin_the_most_is_zero(self):
        setting = [(PROP, 3), (SENSOR, 0, 0), (GO,)]
        self.assertEqual(followed(setting, [(TICK, [0], [1]), (BLAME, 0)]), [[0, 1, 0], [0] * 6])
        self.assertEqual(followed(setting, [(TICK, [0], [0]), (BLAME, 0)]), [[0, 1, 1], [0, 1, 0, 0, 0, 0]])

    def test_begin_amid_a_line_forgets_all(self):
        earlier = [(BEGIN, 1)] + [(PROP, 2)] * 4 + [(SENSOR, 0, 0)] * 4 + [(SENSOR, 1, 3)] * 4
        earlier += [(GO,)] + [(TICK, [0, 1, LOOSE, HELD], [1] * 4 + [NOTHING] * 4)] * 24
        later = [
            (WHERE, 0, 0), (GO,), (PROP, 3), (PROP, 8), (SENSOR, 1, 1), (SENSOR, 1, 2), (WHERE, 0, 0),
            (GO,), (WHERE, 0, 0), (WHERE, 0, 1), (FEWEST,), (TICK, [LOOSE, 4], [4, 3]),
            (WHERE, 0, 1), (WHERE, 1, 1), (WHERE, 2, 0), (BLAME, 0), (BLAME, 1), (BLAME, 2),
            (SINCE, 0), (SINCE, 1), (FEWEST,), (EXPLAIN, 0), (EXPLAIN, 1), (TICK, [0, 4], [6, 2]), (FEWEST,),
        ]
        for most in (0, 1, 2):
            with self.subTest(most=most):
                again = [(BEGIN, most)] + later
                self.assertEqual(followed(earlier, again), talk(*again))

    def test_begin_ends_what_has_begun(self):
        self.assertEqual(
            talk((PROP, 2), (GO,), (BEGIN, 2), (WHERE, 0, 0), (FEWEST,), (PROP, 5), (FEWEST,), (GO,)),
            [[0, 0], [0], [0], [-1], [-3], [0, 0], [-3], [0]])


class Prop(unittest.TestCase):
    def test_the_numbers_ascend(self):
        self.assertEqual(talk(*[(PROP, size) for size in (2, 8, 5, 3)]), [[0, 0], [0, 1], [0, 2], [0, 3]])

    def test_each_size(self):
        for size in range(2, 9):
            with self.subTest(size=size):
                self.assertEqual(last((PROP, size), (GO,), (WHERE, 0, 0)), [0] + list(range(size)))

    def test_a_fifth_has_no_place(self):
        self.assertEqual(talk(*[(PROP, 2)] * 5)[3:], [[0, 3], [-5]])


class Sensor(unittest.TestCase):
    def test_the_numbers_ascend_over_all_props(self):
        calls = [(PROP, 2), (PROP, 3), (SENSOR, 1, 0), (SENSOR, 0, 3), (SENSOR, 1, 1), (SENSOR, 0, 2)]
        self.assertEqual(talk(*calls)[2:], [[0, 0], [0, 1], [0, 2], [0, 3]])

    def test_each_error(self):
        near = {0: [4], 1: [3, 4, 5], 2: [2, 3, 4, 5, 6], 3: [1, 2, 3, 4, 5, 6, 7]}
        for error, places in near.items():
            with self.subTest(error=error):
                self.assertEqual(last(*one_prop(0, 8, error, [(LOOSE, 4)]), (WHERE, 0, 1)), [0] + places)

    def test_four_of_one_prop_and_no_fifth(self):
        calls = [(PROP, 2), (PROP, 2)] + [(SENSOR, 0, 0)] * 5 + [(SENSOR, 1, 0)]
        self.assertEqual(talk(*calls)[5:], [[0, 3], [-5], [0, 4]])

    def test_eight_and_no_ninth(self):
        calls = [(PROP, 2)] * 3 + [(SENSOR, 0, 0)] * 3 + [(SENSOR, 1, 0)] * 4 + [(SENSOR, 2, 0)] * 2
        self.assertEqual(talk(*calls)[9:], [[0, 6], [0, 7], [-5]])

    def test_which_sensor_reads_which_prop(self):
        setting = [(BEGIN, 0), (PROP, 6), (PROP, 6), (SENSOR, 1, 0), (SENSOR, 0, 0), (SENSOR, 1, 1), (GO,)]
        self.assertEqual(
            followed(setting, [(TICK, [LOOSE, LOOSE], [2, 5, 3]), (WHERE, 0, 1), (WHERE, 1, 1)]),
            [[0, 1, 1], [0, 5], [0, 2]])


class Go(unittest.TestCase):
    def test_it_begins_once(self):
        self.assertEqual(talk((PROP, 2), (GO,), (GO,), (PROP, 2), (SENSOR, 0, 0)), [[0, 0], [0], [-3], [-3], [-3]])

    def test_without_a_prop(self):
        self.assertEqual(talk((GO,), (GO,), (PROP, 2), (GO,)), [[-4], [-4], [0, 0], [0]])

    def test_it_is_tick_0(self):
        setting = [(BEGIN, 1), (PROP, 3), (SENSOR, 0, 0), (GO,)]
        asked = [(WHERE, 0, 0), (WHERE, 0, 1), (BLAME, 0), (SINCE, 0), (FEWEST,), (EXPLAIN, 0)]
        self.assertEqual(
            followed(setting, asked), [[0, 0, 1, 2], [-1], [0, 1, 1, 1, 1, 1], [0, 0], [0, 0, 0], [0, 0, 0]])


class Tick(unittest.TestCase):
    def test_up_to_tick_24(self):
        calls = [(PROP, 2), (GO,)] + [(TICK, [LOOSE], [])] * 25 + [(WHERE, 0, 24), (WHERE, 0, 25)]
        found = talk(*calls)
        self.assertEqual(found[2:26], [[0, tick, 1] for tick in range(1, 25)])
        self.assertEqual(found[26:], [[-5], [0, 0, 1], [-1]])

    def test_held_and_to_and_loose(self):
        setting = one_prop(0, 8, 0, [(LOOSE, 6), (HELD, NOTHING), (3, NOTHING), (HELD, NOTHING), (LOOSE, NOTHING)])
        places = followed(setting, [(WHERE, 0, tick) for tick in range(6)])
        everywhere = list(range(8))
        self.assertEqual(places, [[0] + row for row in (everywhere, [6], [6], [3], [3], everywhere)])

    def test_a_later_reading_tells_of_a_held_prop_earlier(self):
        setting = one_prop(0, 5, 0, [(HELD, NOTHING), (HELD, 2), (LOOSE, NOTHING)])
        self.assertEqual(
            followed(setting, [(WHERE, 0, tick) for tick in range(4)]),
            [[0, 2], [0, 2], [0, 2], [0, 0, 1, 2, 3, 4]])

    def test_to_each_position(self):
        for size in (2, 8):
            for place in range(size):
                with self.subTest(size=size, place=place):
                    setting = [(PROP, size), (GO,), (TICK, [place], [])]
                    self.assertEqual(followed(setting, [(WHERE, 0, 1)]), [[0, place]])

    def test_readings_0_and_1000_and_none(self):
        self.assertEqual(talk(*one_prop(0, 2, 0, [(LOOSE, 0)]))[-1], [0, 1, 1])
        self.assertEqual(talk(*one_prop(0, 2, 0, [(LOOSE, 1000)]))[-1], [0, 1, 0])
        self.assertEqual(talk(*one_prop(1, 2, 0, [(LOOSE, 1000)]))[-1], [0, 1, 1])
        self.assertEqual(talk(*one_prop(0, 2, 0, [(LOOSE, NOTHING)]))[-1], [0, 1, 1])

    def test_whether_something_can_be(self):
        # A reading beyond the last position still agrees with it by the error, and no farther.
        for reading, can in ((7, 1), (8, 1), (10, 1), (11, 0), (12, 0)):
            with self.subTest(reading=reading):
                self.assertEqual(talk(*one_prop(0, 8, 3, [(LOOSE, reading)]))[-1], [0, 1, can])

    def test_what_cannot_be_stays_so(self):
        setting = one_prop(0, 4, 0, [(LOOSE, 1), (HELD, 2)])
        self.assertEqual(
            followed(setting, [(TICK, [LOOSE], [NOTHING]), (TICK, [0], [0])]), [[0, 3, 0], [0, 4, 0]])

    def test_props_together(self):
        # Each of the two could be explained by one fault, but there's only one for both.
        setting = [(BEGIN, 1), (PROP, 3), (PROP, 3), (SENSOR, 0, 0), (SENSOR, 1, 0), (GO,)]
        self.assertEqual(followed(setting, [(TICK, [0, 0], [1, 1]), (FEWEST,)]), [[0, 1, 0], [-4]])
        setting[0] = (BEGIN, 2)
        self.assertEqual(followed(setting, [(TICK, [0, 0], [1, 1]), (FEWEST,)]), [[0, 1, 1], [0, 2, 1, 1]])


if __name__ == "__main__":
    unittest.main()
