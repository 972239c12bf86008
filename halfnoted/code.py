"""Code: core expressions as lists of rows."""

from halfnoted.checks import check_of, is_check, is_number
from halfnoted.programs import parts

SIGNS = ("+", "-", "*", "<", "==")

# What stands behind the head of each row.
ROWS = {
    "int": ("number",), "flag": ("flag",), "unit": (),
    "load": ("number",), "close": ("row", "flag"),
    "call": (), "tail": (), "return": (),
    "bind": (), "unbind": (),
    "jump": ("row",), "unless": ("row",),
    "pair": (), "fst": (), "snd": (), "box": (), "get": (), "put": (), "op": ("sign",), "not": (), "print": (),
    "check": ("check",), "join": ("check",),
}


def compile_core(core):
    """The list of the rows of a core expression."""
    compiler = Compiler()
    compiler.compile_all(core)
    return compiler.rows


class Compiler:
    """Compiles a core expression: the rows so far, and the bodies of the functions for which rows follow.

    The names that are bound are a tuple, the innermost one first.
    """

    def __init__(self):
        self.rows = []
        self.bodies = []

    def compile_all(self, core):
        """Compiles a whole expression, and then the bodies of the functions, also of those in other bodies."""
        self.emit(core, (), True)
        done = 0
        while done < len(self.bodies):
            at, is_rec, names, body = self.bodies[done]
            self.rows[at] = ("close", len(self.rows), is_rec)
            self.emit(body, names, True)
            done += 1

    def emit(self, core, names, is_tail):
        """Compiles an expression in a tail place or in another one."""
        match core:
            case ("call", called, passed):
                self.emit(called, names, False)
                self.emit(passed, names, False)
                self.rows.append(("tail",) if is_tail else ("call",))
            case ("cast", number, source, target, part):
                self.emit_cast(check_of(source, target, number=number, side=1), part, names, is_tail)
            case ("if", condition, first, second):
                self.emit(condition, names, False)
                self.emit_branches(first, second, names, is_tail)
            case ("let", name, bound, body):
                self.emit(bound, names, False)
                self.rows.append(("bind",))
                self.emit(body, (name, *names), is_tail)
                if not is_tail:
                    self.rows.append(("unbind",))
            case ("print", printed, body):
                self.emit(printed, names, False)
                self.rows.append(("print",))
                self.emit(body, names, is_tail)
            case _:
                self.emit_value(core, names)
                if is_tail:
                    self.rows.append(("return",))

    def emit_cast(self, check, part, names, is_tail):
        if is_tail:
            self.rows.append(("join", check))
        self.emit(part, names, is_tail)
        if not is_tail:
            self.rows.append(("check", check))

    def emit_branches(self, first, second, names, is_tail):
        """Compiles the second and the last part of an if. Rows that jump are filled in when the row is known."""
        unless = len(self.rows)
        self.rows.append(None)
        self.emit(first, names, is_tail)
        jump = len(self.rows)
        if not is_tail:
            self.rows.append(None)
        self.rows[unless] = ("unless", len(self.rows))
        self.emit(second, names, is_tail)
        if not is_tail:
            self.rows[jump] = ("jump", len(self.rows))

    def emit_value(self, core, names):
        """Compiles an expression that is no tail place for any of its parts."""
        match core:
            case ("num", number):
                self.rows.append(("int", number))
            case ("name", name):
                self.rows.append(("load", names.index(name)))
            case ("fun", name, _, body):
                self.emit_function(False, (name, *names), body)
            case ("rec", own, name, _, _, body):
                self.emit_function(True, (name, own, *names), body)
            case _:
                for part in parts(core):
                    self.emit(part, names, False)
                self.rows.append(row_of(core))

    def emit_function(self, is_rec, names, body):
        self.bodies.append((len(self.rows), is_rec, names, body))
        self.rows.append(None)


def row_of(core):
    """The row of an expression behind the rows of its parts."""
    if core[0] in ("flag", "op"):
        return core[:2]
    return core[:1]


def is_code(rows):
    """Is any value a list of rows that can be run?"""
    if not isinstance(rows, list) or len(rows) == 0:
        return False
    return all([is_row(row, len(rows)) for row in rows]) and rows[-1][0] in ("return", "tail")


def is_row(row, many):
    """Is any value a row of a list of this many rows?"""
    if not isinstance(row, tuple) or len(row) == 0 or not isinstance(row[0], str) or row[0] not in ROWS:
        return False
    kinds = ROWS[row[0]]
    return len(row) == 1 + len(kinds) and all([fits(value, kind, many) for value, kind in zip(row[1:], kinds)])


def fits(value, kind, many):
    """Is any value of a kind of what stands in a row?"""
    match kind:
        case "number":
            return is_number(value)
        case "row":
            return is_number(value) and value < many
        case "flag":
            return isinstance(value, bool)
        case "sign":
            return value in SIGNS
        case "check":
            return is_check(value)
