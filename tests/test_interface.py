"""The one list of calls, the list that's given back, and that nothing else is done."""

import contextlib
import io
import subprocess
import sys
import unittest
from itertools import product
from pathlib import Path

from stickysensors.desk import answers
from talk import (
    ALLOW, BEGIN, BLAME, CHECK, EXPLAIN, FARTHEST, FEWEST, GO, HELD, LOOSE, MEND, NOTHING, PROP, READS, SENSOR,
    SETTLE, SETTLES, SINCE, STATE, SURE, TICK, VOTE, WAYS, WHERE, one_list, talk,
)

LINE = [
    (BEGIN, 2), (PROP, 3), (PROP, 8), (SENSOR, 0, 0), (SENSOR, 1, 2), (SENSOR, 1, 0), (GO,),
    (TICK, [LOOSE, 4], [1, 6, 4]), (TICK, [HELD, LOOSE], [2, 5, 1000]), (TICK, [], []), (WHERE, 0, 2),
    (WHERE, 1, 1), (BLAME, 0), (BLAME, 2), (SINCE, 0), (SINCE, 2), (FEWEST,), (EXPLAIN, 0), (EXPLAIN, 1),
    (TICK, [0, 0], [NOTHING] * 3), (PROP, FARTHEST), (EXPLAIN, -FARTHEST), (FEWEST,),
    (CHECK, 1, [3, 100], [0, 4, 5, 0]), (CHECK, 0, [], []), (CHECK, FARTHEST, [0], [0]), (SURE,), (VOTE, 1),
    (TICK, [1, LOOSE], [1, 7, 9]), (VOTE, 1), (SETTLE, 0, 2), (SETTLE, 1, 1), (SETTLE, 2, FARTHEST), (SETTLES, 0, []),
    (SETTLES, 2, [7, 0, 7, 0, 1, 2]), (SETTLES, 1, [-FARTHEST]), (READS, 2), (MEND, 2), (READS, 2), (STATE,), (WAYS, 0),
    (WAYS, 1), (ALLOW, 0), (STATE,), (WAYS, 1), (ALLOW, -FARTHEST), (ALLOW, 1), (WAYS, 1), (CHECK, 1, [3, 0], [0] * 60),
]


class OneList(unittest.TestCase):
    def test_as_the_numbers_stand(self):
        calls = [0, 1, 1, 3, 2, 0, 0, 3, 4, 1, -2, 1, 2, 5, 0, 1, 6, 0, 7, 0, 8, 9, 0, 5, 1, 0]
        self.assertEqual(answers(calls), [
            1, 0, 2, 0, 0, 2, 0, 0, 1, 0, 3, 0, 1, 1, 4, 0, 0, 1, 2, 6, 0, 1, 1, 1, 1, 1, 3, 0, 0, 1,
            3, 0, 0, 0, 4, 0, 0, 0, 2, 1, -1])

    def test_one_call(self):
        self.assertEqual(answers([3]), [1, -4])
        self.assertEqual(answers([0, 2]), [1, 0])
        self.assertEqual(answers([8]), [1, -3])
        self.assertEqual(answers([4, 0, 0]), [1, -3])

    def test_empty_rows_and_rows_of_60(self):
        rows = [(TICK, [], []), (TICK, [2] * 60, []), (TICK, [], [3] * 60), (TICK, [2] * 60, [3] * 60), (FEWEST,)]
        self.assertEqual(talk(*rows), [[-3], [-1], [-1], [-1], [-3]])

    def test_a_list_of_120_calls(self):
        calls = [(BEGIN, 2)] + [(PROP, 8)] * 2 + [(SENSOR, prop, 0) for prop in (0, 1)] * 4 + [(GO,)]
        calls += [(TICK, [tick % 8] * 2, [tick % 8] * 8) for tick in range(1, 25)]
        calls += [(WHERE, tick % 2, tick % 25) for tick in range(84)]
        self.assertEqual(len(calls), 120)
        self.assertEqual(talk(*calls)[-1], [0, 83 % 25 % 8])

    def test_120_calls_with_three_that_settle(self):
        calls = [(BEGIN, 2)] + [(PROP, 8)] * 2 + [(SENSOR, prop, 0) for prop in (0, 1)] * 4 + [(GO,)]
        for tick in range(1, 25):
            calls.append((TICK, [LOOSE] * 2, [NOTHING] * 7 + [tick % 8]))
        calls += [(SETTLE, 7, 2), (SETTLE, 0, 2), (SETTLE, 3, 2)]
        asked = [(WAYS, 0), (WAYS, 1), (SURE,), (SINCE, 7), (BLAME, 7), (SETTLES, 7, [7, 0] * 3), (WHERE, 1, 24),
                 (EXPLAIN, 1), (CHECK, 1, [0] * 4, [0] * 25), (VOTE, 1), (READS, 7), (STATE,), (FEWEST,)]
        calls += (asked * 7)[:120 - len(calls)]
        self.assertEqual(len(calls), 120)
        found = talk(*calls)
        self.assertEqual(found[36:39], [[0, 0]] * 3)
        self.assertEqual([answer[:2] for answer in found[39:41]], [[0, 113], [0, 113]])
        self.assertEqual(found[41:44], [[0], [0, 24], [0, 1, 1, 1, 1, 1]])

    def test_120_calls_with_ways_that_are_told_apart(self):
        # At tick 24 each sensor reads 0 as the prop goes there, fine or stuck from then on.
        calls = [(BEGIN, 2)] + [(PROP, 8)] * 2 + [(SENSOR, 0, 0)] * 4 + [(SENSOR, 1, 0)] * 4 + [(GO,)]
        calls += [(TICK, [place] * 2, [place] * 8) for place in [7] * 23 + [0]]
        calls += [(SETTLE, 0, 2), (SETTLE, 6, 2), (SETTLE, 7, 1), (STATE,)]
        calls += [(SETTLES, 6, [0] * 6), (WAYS, 1)] * 40
        stuck = [row for row in product((0, 124), repeat=4) if sum(row) <= 2 * 124]
        ways = [0, len(stuck)] + [fault for row in stuck for fault in row]
        self.assertEqual(len(calls), 120)
        self.assertEqual(talk(*calls)[36:], [[0, 1, 1]] * 3 + [[0, 2, 8, 1, 24, 2]] + [[0, 0], ways] * 40)

    def test_the_form_of_each_answer(self):
        calls = [0, 1, 1, 3, 2, 0, 0, 3, 4, 1, 1, 1, 2, 10, 0, 1, 100, 2, 0, 1, 11, 12, 0, 13, 0, 2, 14, 0, 0, 16, 0,
                 15, 0, 16, 0, 17, 18, 0, 19, 0, 18, 0, 14, 0, 2, 1, 3, 13, 0, 0]
        self.assertEqual(answers(calls), [
            1, 0, 2, 0, 0, 2, 0, 0, 1, 0, 3, 0, 1, 1, 3, 0, 1, 1, 2, 0, 0, 4, 0, 2, 1, 1, 2, 0, 1, 2, 0, 1,
            4, 0, 0, -1, 2, 1, 0, 2, 0, 2, 6, 0, 1, 1, 1, 1, 1, 6, 0, 4, 0, 1, 2, 3, 1, 0, 3, 0, 1, 0, 1, -1, 2, 0, 1])

    def test_the_moves_that_settle_stand_behind_the_1(self):
        calls = [0, 1, 1, 2, 2, 0, 0, 3, 4, 1, 1, 1, -1, 4, 1, 1, 1, -1, 4, 1, 0, 1, 0, 13, 0, 1, 13, 0, 2]
        self.assertEqual(answers(calls)[-8:], [2, 0, 0, 4, 0, 1, 0, 1])


class NothingElse(unittest.TestCase):
    def test_what_is_handed_in_stays(self):
        calls = one_list(LINE)
        kept = list(calls)
        answers(calls)
        self.assertEqual(calls, kept)

    def test_it_is_not_changed_for_a_while_either(self):
        class Watched(list):
            def refuse(self, *told):
                raise AssertionError("changed")

            append = extend = insert = pop = remove = clear = sort = reverse = refuse
            __setitem__ = __delitem__ = __iadd__ = __imul__ = refuse

        self.assertEqual(answers(Watched(one_list(LINE))), answers(one_list(LINE)))

    def test_an_equal_list_gets_equal_answers(self):
        first = answers(one_list(LINE))
        answers(one_list([(BEGIN, 1), (PROP, 5), (SENSOR, 0, 3), (GO,), (TICK, [2], [9])]))
        self.assertEqual(answers(one_list(LINE)), first)

    def test_each_list_is_a_new_line(self):
        answers(one_list([(BEGIN, 2), (PROP, 5), (GO,)]))
        self.assertEqual(talk((GO,), (PROP, 2), (WHERE, 0, 0)), [[-4], [0, 0], [-3]])

    def test_what_was_given_back_is_the_callers_own(self):
        first = answers(one_list(LINE))
        kept = list(first)
        first.clear()
        self.assertEqual(answers(one_list(LINE)), kept)

    def test_a_list_of_whole_numbers(self):
        given = answers(one_list(LINE))
        self.assertIs(list, given.__class__)
        for number in given:
            self.assertIs(int, number.__class__)

    def test_nothing_is_printed(self):
        with contextlib.redirect_stdout(io.StringIO()) as printed, contextlib.redirect_stderr(io.StringIO()) as told:
            answers(one_list(LINE))
        self.assertEqual(printed.getvalue() + told.getvalue(), "")

    def test_nothing_but_the_program_is_imported(self):
        code = "\n".join([
            "import sys",
            "before = set(sys.modules)",
            "from stickysensors.desk import answers",
            "loaded = set(sys.modules)",
            f"answers({one_list(LINE)!r})",
            "print(sorted({name.split('.')[0] for name in loaded - before}), set(sys.modules) == loaded)",
        ])
        root = Path(__file__).resolve().parent.parent
        done = subprocess.run([sys.executable, "-B", "-c", code], cwd=root, capture_output=True, text=True)
        self.assertEqual(done.stdout, "['stickysensors'] True\n", done.stderr)


if __name__ == "__main__":
    unittest.main()
