"""Blame: which labels of a core expression may be blamed."""

from halfnoted.check import casts
from halfnoted.types import safe


def may_blame(core):
    """The list of the labels that may be blamed, in the order of the casts, side 1 before side 0, each once."""
    found = {}
    for number, source, target in casts(core):
        for side in (1, 0):
            if not safe(source, target, side=side):
                found[(number, side)] = True
    return list(found)


def explains(core, end):
    """Is an end none with blame, or one with a label that may be blamed?"""
    return end[0] != "blame" or end[1:] in may_blame(core)
