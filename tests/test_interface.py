"""The one list of calls, the list that's given back, and that nothing else is done."""

import contextlib
import io
import subprocess
import sys
import unittest
from pathlib import Path

from stickysensors.desk import answers
from talk import (
    BEGIN, BLAME, EXPLAIN, FARTHEST, FEWEST, GO, HELD, LOOSE, NOTHING, PROP, SENSOR, SINCE, TICK, WHERE,
    one_list, talk,
)

CHECK, SURE, VOTE, SETTLE, SETTLES, MEND, READS, STATE, WAYS, ALLOW = range(10, 20)

LINE = [
    (BEGIN, 2), (PROP, 3), (PROP, 8), (SENSOR, 0, 0), (SENSOR, 1, 2), (SENSOR, 1, 0), (GO,),
    (TICK, [LOOSE, 4], [1, 6, 4]), (TICK, [HELD, LOOSE], [2, 5, 1000]), (TICK, [], []), (WHERE, 0, 2),
    (WHERE, 1, 1), (BLAME, 0), (BLAME, 2), (SINCE, 0), (SINCE, 2), (FEWEST,), (EXPLAIN, 0), (EXPLAIN, 1),
    (TICK, [0, 0], [NOTHING] * 3), (PROP, FARTHEST), (EXPLAIN, -FARTHEST), (FEWEST,),
]


class OneList(unittest.TestCase):
    def test_as_the_numbers_stand(self):
        calls = [0, 1, 1, 3, 2, 0, 0, 3, 4, 1, -2, 1, 2, 5, 0, 1, 6, 0, 7, 0, 8, 9, 0, 5, 1, 0]
        self.assertEqual(answers(calls), [
            1, 0, 2, 0, 0, 2, 0, 0, 1, 0, 3, 0, 1, 1, 4, 0, 0, 1, 2, 6, 0, 1, 1, 1, 1, 1, 3, 0, 0, 1,
            3, 0, 0, 0, 4, 0, 0, 0, 2, 1, -1])

    def test_one_call(self):
        self.assertEqual(answers([3]), [1, -4])
        self.assertEqual(answers([0, 2]), [1, 0])
        self.assertEqual(answers([8]), [1, -3])
        self.assertEqual(answers([4, 0, 0]), [1, -3])

    def test_empty_rows_and_rows_of_60(self):
        rows = [(TICK, [], []), (TICK, [2] * 60, []), (TICK, [], [3] * 60), (TICK, [2] * 60, [3] * 60), (FEWEST,)]
        self.assertEqual(talk(*rows), [[-3], [-1], [-1], [-1], [-3]])

    def test_a_list_of_120_calls(self):
        calls = [(BEGIN, 2)] + [(PROP, 8)] * 2 + [(SENSOR, prop, 0) for prop in (0, 1)] * 4 + [(GO,)]
        calls += [(TICK, [tick % 8] * 2, [tick % 8] * 8) for tick in range(1, 25)]
        calls += [(WHERE, tick % 2, tick % 25) for tick in range(84)]
        self.assertEqual(len(calls), 120)
        self.assertEqual(talk(*calls)[-1], [0, 83 % 25 % 8])

    def test_the_other_calls_are_read_in_the_form_told(self):
        others = [
            (CHECK, 0, [], []), (CHECK, 9, [0] * 60, [4]), (SURE,), (VOTE, 0), (SETTLE, 0, 1), (SETTLES, 0, []),
            (SETTLES, 0, [1] * 6), (MEND, -1), (READS, 0), (STATE,), (WAYS, 0), (ALLOW, 5),
        ]
        for other in others:
            with self.subTest(other=other):
                self.assertEqual(talk(other, *LINE)[1:], talk(*LINE))
                self.assertEqual(talk(*LINE, other)[:-1], talk(*LINE))


class NothingElse(unittest.TestCase):
    def test_what_is_handed_in_stays(self):
        calls = one_list(LINE)
        kept = list(calls)
        answers(calls)
        self.assertEqual(calls, kept)

    def test_it_is_not_changed_for_a_while_either(self):
        class Watched(list):
            def refuse(self, *told):
                raise AssertionError("changed")

            append = extend = insert = pop = remove = clear = sort = reverse = refuse
            __setitem__ = __delitem__ = __iadd__ = __imul__ = refuse

        self.assertEqual(answers(Watched(one_list(LINE))), answers(one_list(LINE)))

    def test_an_equal_list_gets_equal_answers(self):
        first = answers(one_list(LINE))
        answers(one_list([(BEGIN, 1), (PROP, 5), (SENSOR, 0, 3), (GO,), (TICK, [2], [9])]))
        self.assertEqual(answers(one_list(LINE)), first)

    def test_each_list_is_a_new_line(self):
        answers(one_list([(BEGIN, 2), (PROP, 5), (GO,)]))
        self.assertEqual(talk((GO,), (PROP, 2), (WHERE, 0, 0)), [[-4], [0, 0], [-3]])

    def test_what_was_given_back_is_the_callers_own(self):
        first = answers(one_list(LINE))
        kept = list(first)
        first.clear()
        self.assertEqual(answers(one_list(LINE)), kept)

    def test_a_list_of_whole_numbers(self):
        given = answers(one_list(LINE))
        self.assertIs(list, given.__class__)
        for number in given:
            self.assertIs(int, number.__class__)

    def test_nothing_is_printed(self):
        with contextlib.redirect_stdout(io.StringIO()) as printed, contextlib.redirect_stderr(io.StringIO()) as told:
            answers(one_list(LINE))
        self.assertEqual(printed.getvalue() + told.getvalue(), "")

    def test_nothing_but_the_program_is_imported(self):
        code = "\n".join([
            "import sys",
            "before = set(sys.modules)",
            "from stickysensors.desk import answers",
            "loaded = set(sys.modules)",
            f"answers({one_list(LINE)!r})",
            "print(sorted({name.split('.')[0] for name in loaded - before}), set(sys.modules) == loaded)",
        ])
        root = Path(__file__).resolve().parent.parent
        done = subprocess.run([sys.executable, "-B", "-c", code], cwd=root, capture_output=True, text=True)
        self.assertEqual(done.stdout, "['stickysensors'] True\n", done.stderr)


if __name__ == "__main__":
    unittest.main()
