"""The whole: from a text to the outcome, on each of the three roads."""

from halfnoted.check import elaborate
from halfnoted.code import compile_core
from halfnoted.errors import Unknown
from halfnoted.machine import run_machine
from halfnoted.plain import run_plain
from halfnoted.reader import read
from halfnoted.runner import run_code

ROADS = ("plain", "machine", "code")


def outcome(text, calls, *, road="code"):
    """The pair (prints, end) of a text on one road."""
    if road not in ROADS:
        raise Unknown(road)
    return run_on(road, core_of(text), calls)


def all_outcomes(text, calls):
    """The list of the outcomes of a text on the three roads."""
    core = core_of(text)
    return [run_on(road, core, calls) for road in ROADS]


def core_of(text):
    """The core expression that a text is elaborated to."""
    core, _ = elaborate(read(text))
    return core


def run_on(road, core, calls):
    """The pair (prints, end) of a core expression on one road."""
    match road:
        case "plain":
            return run_plain(core, calls)
        case "machine":
            return run_machine(core, calls)
        case "code":
            return run_code(compile_core(core), calls)
