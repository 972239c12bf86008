"""The examples of the interface, and those of README.md."""

import builtins
import doctest
import unittest
from pathlib import Path

from halfnoted.blame import may_blame
from halfnoted.check import elaborate
from halfnoted.checks import check_of, join
from halfnoted.code import compile_core
from halfnoted.machine import run_machine, run_measured
from halfnoted.plain import run_plain
from halfnoted.reader import read
from halfnoted.runner import run_code, run_room
from halfnoted.whole import all_outcomes, outcome

README = Path(__file__).resolve().parent.parent / "README.md"


def core_of(text):
    return elaborate(read(text))[0]


class InterfaceExamples(unittest.TestCase):
    def test_checks(self):
        found = check_of(("any",), ("fun", ("int",), ("any",)), number=3, side=1)
        self.assertEqual(found, ("take", "fun", (3, 1), ("fun", ("give", ("same", "int")), ("any",))))
        one = check_of(("int",), ("any",), number=1, side=1)
        self.assertEqual(join(one, check_of(("any",), ("bool",), number=2, side=1)), ("fail", "int", (2, 1), "bool"))
        self.assertEqual(join(one, check_of(("any",), ("int",), number=2, side=1)), ("same", "int"))

    def test_runs(self):
        examples = [
            ("let f = fun x => x + 1 in print f 4 ; f (true : any)", 10, ((5,), ("blame", 3, 1))),
            ("(rec h (n : int) : int => print n ; h (n + 1)) 0", 3, ((0, 1, 2), ("calls",))),
            ("(rec h (n : int) : any => if n < 1 then (7 : any) else (h (n - 1) : int)) 40", 100,
             ((), ("value", ("int", 7)))),
        ]
        for text, calls, expected in examples:
            core = core_of(text)
            self.assertEqual(run_plain(core, calls), expected)
            self.assertEqual(run_machine(core, calls), expected)
            self.assertEqual(run_code(compile_core(core), calls), expected)
            self.assertEqual(outcome(text, calls), expected)

    def test_measures(self):
        core = core_of("(rec h (n : int) : any => if n < 1 then (7 : any) else (h (n - 1) : int)) 40")
        self.assertEqual(run_measured(core, 100), ((), ("value", ("int", 7)), (2, 1, 3)))
        self.assertEqual(run_room(compile_core(core), 100), ((), ("value", ("int", 7)), (1, 3)))

    def test_code(self):
        rows = [("close", 3, False), ("int", 2), ("tail",), ("load", 0), ("int", 1), ("op", "+"), ("return",)]
        self.assertEqual(compile_core(core_of("(fun x : int => x + 1) 2")), rows)

    def test_blame(self):
        self.assertEqual(may_blame(core_of("((fun x : int => x) : any) true")), [(1, 1), (2, 0)])

    def test_whole(self):
        text = "let b = box (1 : any) in let u = put b 2 in print get b ; b"
        self.assertEqual(all_outcomes(text, 0), [((2,), ("value", ("box",)))] * 3)


class ReadmeExamples(unittest.TestCase):
    def test_examples(self):
        text = README.read_text().replace("```", "")
        found = doctest.DocTestParser().get_doctest(text, {}, "README.md", None, 0)
        self.assertGreater(len(found.examples), 20)
        # What shows the results also keeps the last one among the builtins.
        self.addCleanup(vars(builtins).pop, "_", None)
        said = []
        result = doctest.DocTestRunner(verbose=False).run(found, out=said.append)
        self.assertEqual(result.failed, 0, "".join(said))


if __name__ == "__main__":
    unittest.main()
