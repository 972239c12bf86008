"""The types of core expressions."""

from halfnoted.types import consistent
from trees import BOOL, INT, UNIT, box, fun, pair


class CoreTypes:
    """The types of core expressions by the rules without consistency: what is cast has exactly the wanted type."""

    def __init__(self, test):
        self.test = test

    def wants(self, core, wanted, scope):
        self.test.assertEqual(self.of(core, scope), wanted, core)

    def of(self, core, scope):
        return getattr(self, "of_" + core[0])(scope, *core[1:])

    def of_num(self, scope, number):
        return INT

    def of_flag(self, scope, flag):
        return BOOL

    def of_unit(self, scope):
        return UNIT

    def of_name(self, scope, name):
        return scope[name]

    def of_call(self, scope, called, passed):
        kind, given, result = self.of(called, scope)
        self.test.assertEqual(kind, "fun")
        self.wants(passed, given, scope)
        return result

    def of_fun(self, scope, name, given, body):
        return fun(given, self.of(body, {**scope, name: given}))

    def of_rec(self, scope, own, name, given, result, body):
        inner = dict(scope)
        inner[own] = fun(given, result)
        inner[name] = given
        self.wants(body, result, inner)
        return fun(given, result)

    def of_let(self, scope, name, value, body):
        return self.of(body, {**scope, name: self.of(value, scope)})

    def of_if(self, scope, condition, first, second):
        self.wants(condition, BOOL, scope)
        result = self.of(first, scope)
        self.wants(second, result, scope)
        return result

    def of_pair(self, scope, first, second):
        return pair(self.of(first, scope), self.of(second, scope))

    def of_fst(self, scope, whole):
        kind, first, _ = self.of(whole, scope)
        self.test.assertEqual(kind, "pair")
        return first

    def of_snd(self, scope, whole):
        kind, _, second = self.of(whole, scope)
        self.test.assertEqual(kind, "pair")
        return second

    def of_box(self, scope, held):
        return box(self.of(held, scope))

    def of_get(self, scope, whole):
        kind, held = self.of(whole, scope)
        self.test.assertEqual(kind, "box")
        return held

    def of_put(self, scope, whole, stored):
        self.wants(stored, self.of_get(scope, whole), scope)
        return UNIT

    def of_op(self, scope, sign, left, right):
        self.wants(left, INT, scope)
        self.wants(right, INT, scope)
        return BOOL if sign in ("<", "==") else INT

    def of_not(self, scope, operand):
        self.wants(operand, BOOL, scope)
        return BOOL

    def of_print(self, scope, printed, body):
        self.wants(printed, INT, scope)
        return self.of(body, scope)

    def of_cast(self, scope, number, source, target, inner):
        self.test.assertNotEqual(source, target)
        self.test.assertTrue(consistent(source, target))
        self.wants(inner, source, scope)
        return target
