"""Plans and bound expressions drawn by chance, whose kinds fit, over some tables."""

import random

from tablestack.parser import parse
from tablestack.schema import Catalog, Index, declared_table
from tablestack.source import Source

KINDS = {"t": ("int", "int", "text"), "u": ("int", "text"), "e": ("text", "int")}
HELD = {
    "t": [(1, 2, "x"), (2, None, "y"), (3, 2, None), (4, 1, "x"), (5, None, None), (7, 3, "y"), (8, 2, "x")],
    "u": [(2, "x"), (None, "y"), (1, None), (2, "x"), (4, "z")],
    "e": [],
}
INTS = (None, -1, 0, 1, 2, 3, 4, 9223372036854775807)
TEXTS = (None, "", "x", "y", "xy", "_", "*")


def drawn_catalog():
    """Return the catalog of the tables, one of which has a primary key; the others may be found by indexes."""
    catalog = Catalog()
    for text in ("t (a int, b int, c text, primary key (a))", "u (d int, e text)", "e (f text, g int)"):
        catalog.add_table(declared_table(parse(f"create table {text}"))[0])
    for name, table, places in (("t_b", "t", (1,)), ("t_cb", "t", (2, 1)), ("u_d", "u", (0,)), ("e_g", "e", (1,))):
        catalog.add_index(Index(name, table, False, places))
    return catalog


def drawn_source():
    return Source(drawn_catalog(), HELD)


class PlanDrawer:
    """Draws plans from a seed; a row's kinds stand in scopes, the nearest first."""

    def __init__(self, seed):
        self.chance = random.Random(seed)

    def flag(self, part=0.5):
        return self.chance.random() < part

    def pick(self, *forms):
        return self.chance.choice(forms)()

    def field(self, kind, scopes):
        found = [("field", up, place) for up, kinds in enumerate(scopes) for place,
            one in enumerate(kinds) if one == kind]
        # Most fields are of the row itself, so that conditions have something to do.
        own = [tree for tree in found if tree[1] == 0]
        if own and self.flag(0.9):
            return self.chance.choice(own)
        return self.chance.choice(found) if found else self.literal(kind)

    def literal(self, kind):
        value = self.chance.choice(INTS if kind == "int" else TEXTS)
        return ("null",) if value is None else (kind, value)

    def value(self, kind, deep, scopes):
        if deep == 0 or self.flag(0.3):
            return self.pick(lambda: self.field(kind, scopes), lambda: self.field(kind, scopes),
                lambda: self.literal(kind))
        inner = lambda: self.value(kind, deep - 1, scopes)
        forms = [
            lambda: ("case", ((self.truth(deep - 1, scopes), inner()), (self.truth(deep - 1, scopes), inner())),
             inner()),
            lambda: ("scalar", self.column_plan(kind, deep - 1, scopes)),
        ]
        if kind == "text":
            forms.append(lambda: ("op", "||", inner(), inner()))
        else:
            forms.append(lambda: ("neg", inner()))
            forms.extend([lambda: ("op", self.chance.choice(("+", "-", "*", "/", "mod")), inner(), inner())] * 3)
        return self.chance.choice(forms)()

    def truth(self, deep, scopes):
        kind = self.chance.choice(("int", "int", "text"))
        value = lambda: self.value(kind, max(deep - 1, 0), scopes)
        compared = lambda: ("cmp", self.chance.choice(("=", "=", "=", "<>", "<", "<=", ">", ">=")), value(), value())
        if deep == 0:
            return compared()
        inner = lambda: self.truth(deep - 1, scopes)
        text = lambda: self.value("text", deep - 1, scopes)
        return self.pick(
            compared, compared, compared, lambda: ("and", inner(), inner()), lambda: ("and", inner(), inner()),
            lambda: ("or", inner(), inner()), lambda: ("not", inner()), lambda: ("isnull", value(), self.flag()),
            lambda: ("in", value(), tuple(value() for _ in range(self.chance.randint(1, 3))), self.flag()),
            lambda: ("between", value(), value(), value(), self.flag()), lambda: ("like", text(), text(), self.flag()),
            lambda: ("truth", self.chance.choice((True, False))), lambda: ("null",),
            lambda: ("exists", self.plan(deep - 1, scopes)[0]),
            lambda: ("inquery", value(), self.column_plan(kind, deep - 1, scopes), self.flag()),
        )

    def column_plan(self, kind, deep, outer):
        """Return a plan of one column of a kind."""
        plan, kinds = self.plan(deep, outer)
        return ("project", (self.value(kind, 0, [kinds, *outer]),), plan)

    def plan(self, deep, outer=()):
        """Return (plan, kinds of its columns) of a plan that stands in rows of some kinds."""
        if deep == 0:
            name = self.chance.choice(("t", "t", "t", "u", "u", "e"))
            return self.pick(*[lambda: (("scan", name, len(KINDS[name])), KINDS[name])] * 9, lambda: (("unit",), ()))
        forms = (
            self.filter, self.filter, self.filter, self.project, self.project, self.join, self.join, self.join,
            self.group,
            self.distinct, self.combined, self.sort, self.limit,
        )
        return self.chance.choice(forms)(deep - 1, outer)

    def filter(self, deep, outer):
        plan, kinds = self.plan(deep, outer)
        tests = [self.truth(self.chance.randint(0, 2), [kinds, *outer]) for _ in range(self.chance.randint(1, 3))]
        test = tests[0]
        for one in tests[1:]:
            test = ("and", test, one)
        return (("filter", test, plan), kinds)

    def project(self, deep, outer):
        plan, kinds = self.plan(deep, outer)
        if self.flag(0.2):
            return (("project", tuple(("field", 0, place) for place in range(len(kinds))), plan), kinds)
        wanted = tuple(self.chance.choice(("int", "text")) for _ in range(self.chance.randint(1, 3)))
        trees = [self.value(kind, self.chance.choice((0, 0, 1)), [kinds, *outer]) for kind in wanted]
        return (("project", tuple(trees), plan), wanted)

    def join(self, deep, outer):
        one, first = self.plan(self.chance.randint(0, deep), outer)
        other, second = self.plan(self.chance.randint(0, deep), outer)
        kinds = (*first, *second)
        tests = [self.truth(self.chance.randint(0, 1), [kinds, *outer]) for _ in range(self.chance.randint(0, 3))]
        for place, kind in enumerate(first):
            for there, wanted in enumerate(second):
                if kind == wanted and self.flag(0.3):
                    sides = [("field", 0, place), ("field", 0, len(first) + there)]
                    self.chance.shuffle(sides)
                    tests.append(("cmp", "=", *sides))
        test = None
        for one_test in tests:
            test = one_test if test is None else ("and", test, one_test)
        return (("join", self.flag(0.3), test, one, other), kinds)

    def group(self, deep, outer):
        plan, kinds = self.plan(deep, outer)
        keys = tuple(self.chance.choice(("int", "text")) for _ in range(self.chance.randint(0, 2)))
        calls = []
        for _ in range(self.chance.randint(0 if keys else 1, 2)):
            name = self.chance.choice(("count", "sum", "min", "max"))
            tree = None if name == "count" and self.flag() else self.value("int", 1, [kinds, *outer])
            calls.append((name, tree, tree is not None and self.flag()))
        trees = tuple(self.value(kind, 0, [kinds, *outer]) for kind in keys)
        return (("group", trees, tuple(calls), plan), (*keys, *["int"] * len(calls)))

    def distinct(self, deep, outer):
        plan, kinds = self.plan(deep, outer)
        return (("distinct", plan), kinds)

    def combined(self, deep, outer):
        one, kinds = self.plan(self.chance.randint(0, deep), outer)
        other, there = self.plan(self.chance.randint(0, deep), outer)
        trees = tuple(self.value(kind, 0, [there, *outer]) for kind in kinds)
        word = self.chance.choice(("union", "except", "intersect"))
        return ((word, self.flag(), one, ("project", trees, other)), kinds)

    def sort(self, deep, outer):
        plan, kinds = self.plan(deep, outer)
        orders = tuple((self.value(self.chance.choice(("int", "text")), 0, [kinds, *outer]),
                self.flag()) for _ in range(2))
        if self.flag(0.3):
            orders = (*orders, *[(("field", 0, place), self.flag()) for place in range(len(kinds))])
        return (("sort", orders, plan), kinds)

    def limit(self, deep, outer):
        plan, kinds = self.plan(deep, outer)
        return (("limit", self.chance.choice((None, 0, 1, 2, 5)), self.chance.choice((0, 0, 1, 3)), plan), kinds)
