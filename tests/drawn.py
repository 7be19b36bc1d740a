"""Trees drawn by chance, as the parser may give them."""

import random

NAMES = ("a", "b", "c_1", "t", "u", "_x")
TEXTS = ("", "a", "it's", "--", "x\ny", "*_", "(", "select")
NUMBERS = (0, 1, 7, -1, -5, 9223372036854775807, -9223372036854775807)


class Drawer:
    """Draws trees from a seed."""

    def __init__(self, seed):
        self.chance = random.Random(seed)

    def name(self):
        return self.chance.choice(NAMES)

    def flag(self):
        return self.chance.random() < 0.5

    def many(self, draw, least=1, most=3):
        return tuple(draw() for _ in range(self.chance.randint(least, most)))

    def names(self):
        return self.many(self.name)

    def expression(self, deep):
        if deep == 0:
            return self.leaf()
        inner = lambda: self.expression(self.chance.randint(0, deep - 1))
        forms = (
            self.leaf, lambda: ("neg", inner()), lambda: ("not", inner()),
            lambda: ("op", self.chance.choice(("+", "-", "||", "*", "/", "mod")), inner(), inner()),
            lambda: ("op", self.chance.choice(("+", "-", "*")), inner(), inner()),
            lambda: ("cmp", self.chance.choice(("=", "<>", "<", "<=", ">", ">=")), inner(), inner()),
            lambda: ("and", inner(), inner()), lambda: ("or", inner(), inner()),
            lambda: ("isnull", inner(), self.flag()), lambda: ("in", inner(), self.many(inner), self.flag()),
            lambda: ("inquery", inner(), self.query(deep - 1), self.flag()),
            lambda: ("between", inner(), inner(), inner(), self.flag()),
            lambda: ("like", inner(), inner(), self.flag()),
            lambda: ("case", self.many(lambda: (inner(), inner()), 1, 2), inner()),
            lambda: ("exists", self.query(deep - 1)), lambda: ("scalar", self.query(deep - 1)),
            lambda: ("agg", self.chance.choice(("count", "sum", "min", "max")), inner(), self.flag()),
            lambda: ("agg", "count", None, False),
        )
        return self.chance.choice(forms)()

    def leaf(self):
        forms = (("null",), ("int", self.chance.choice(NUMBERS)), ("text", self.chance.choice(TEXTS)),
                 ("col", None, self.name()), ("col", self.name(), self.name()))
        return self.chance.choice(forms)

    def query(self, deep):
        orders = self.many(lambda: (self.expression(min(deep, 1)), self.flag()), 0, 2)
        limit = self.chance.choice((None, None, 0, 5))
        return ("query", self.body(deep), orders, limit, self.chance.choice((0, 0, 3)))

    def body(self, deep):
        if deep > 0 and self.chance.random() < 0.3:
            word = self.chance.choice(("union", "except", "intersect"))
            return (word, self.flag(), self.body(deep - 1), self.body(deep - 1))
        inner = lambda: self.expression(self.chance.randint(0, max(deep - 1, 0)))
        perhaps = lambda: inner() if self.chance.random() < 0.3 else None
        items = self.many(lambda: self.item(inner))
        groups = self.many(inner, 0, 2) if self.chance.random() < 0.3 else ()
        source = None if self.chance.random() < 0.2 else self.source(deep)
        return ("select", self.flag(), items, source, perhaps(), groups, perhaps())

    def item(self, inner):
        draw = self.chance.random()
        if draw < 0.2:
            return ("star", self.chance.choice((None, self.name())))
        return (inner(), self.chance.choice((None, self.name())))

    def source(self, deep):
        draw = self.chance.random()
        if deep == 0 or draw < 0.5:
            name = self.name()
            return ("table", name, self.chance.choice((name, self.name())))
        if draw < 0.65:
            return ("sub", self.query(deep - 1), self.name())
        one, other = self.source(deep - 1), self.source(deep - 1)
        if self.flag():
            return ("join", False, one, other, None)
        return ("join", self.flag(), one, other, self.expression(deep - 1))

    def statement(self, deep):
        inner = lambda: self.expression(deep)
        where = self.chance.choice((None, inner()))
        name = self.name()
        forms = (
            lambda: self.query(deep), lambda: ("explain", self.query(deep)),
            lambda: ("insert", name, self.chance.choice((None, self.names())), self.query(deep)),
            lambda: ("insert", name, self.chance.choice((None, self.names())),
                     ("rows", self.many(lambda: self.many(inner)))),
            lambda: ("update", name, self.many(lambda: (self.name(), inner())), where), lambda: ("delete", name, where),
            lambda: ("create_table", name, self.many(self.column), self.many(lambda: self.rule(inner), 0)),
            lambda: ("create_index", self.flag(), name, self.name(), self.names()),
            lambda: ("create_view", name, self.query(deep)), lambda: ("drop_table", name), lambda: ("drop_view", name),
            lambda: ("drop_index", self.chance.choice((name, "t.0", "t.12"))), lambda: ("analyze", name),
            lambda: ("begin",), lambda: ("commit",), lambda: ("rollback",), lambda: ("savepoint", name),
            lambda: ("rollback_to", name), lambda: ("release", name),
        )
        return self.chance.choice(forms)()

    def column(self):
        literals = (None, None, ("null",), ("int", self.chance.choice(NUMBERS)), ("text", self.chance.choice(TEXTS)))
        return (self.name(), self.chance.choice(("int", "text")), self.flag(), self.chance.choice(literals))

    def rule(self, inner):
        forms = (("primary", self.names()), ("unique", self.names()), ("check", inner()),
                 ("foreign", self.names(), self.name(), self.names()))
        return self.chance.choice(forms)
