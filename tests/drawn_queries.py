"""Queries drawn by chance as texts, whose kinds fit, over some tables and views."""

import random

SETUP = (
    "create table t (a int, b int, c text, primary key (a))", "create table u (d int, e text)",
    "create table w (f text, g int, primary key (g, f))",
    "create index t_b on t (b)", "create index t_cb on t (c, b)", "create index u_d on u (d)",
    "create index w_f on w (f)",
    "create view v as select a, c from t where a > 1", "create view x as select d, count(*) as n from u group by d",
)
COLUMNS = {
    "t": (("a", "int"), ("b", "int"), ("c", "text")), "u": (("d", "int"), ("e", "text")),
    "w": (("f", "text"), ("g", "int")),
    "v": (("a", "int"), ("c", "text")), "x": (("d", "int"), ("n", "int")),
}
LITERALS = {"int": ("null", "0", "1", "2", "3", "-1", "5", "7"), "text": ("null", "'x'", "'y'", "'xy'", "''", "'z'")}
SIGNS = ("=", "=", "=", "<", "<=", ">", ">=", "<>")


class QueryDrawer:
    """Draws queries from a seed; a scope is a list of (column, kind), the nearest one first among several."""

    def __init__(self, seed):
        self.chance = random.Random(seed)
        self.aliases = 0

    def pick(self, *values):
        return self.chance.choice(values)

    def flag(self, part):
        return self.chance.random() < part

    def literal(self, kind):
        return self.pick(*LITERALS[kind])

    def column(self, kind, scopes):
        own = [name for name, one in scopes[0] if one == kind]
        if own == [] or self.flag(0.1):
            own = [name for scope in scopes for name, one in scope if one == kind]
        return self.pick(*own) if own else self.literal(kind)

    def value(self, kind, scopes, deep):
        if deep <= 0 or self.flag(0.6):
            return self.column(kind, scopes) if self.flag(0.7) else self.literal(kind)
        inner = lambda: self.value(kind, scopes, deep - 1)
        if self.flag(0.15):
            return f"case when {self.condition(scopes, deep - 1)} then {inner()} else {inner()} end"
        if self.flag(0.2):
            return f"({self.subquery(kind, scopes, deep - 1)})"
        if kind == "text":
            return f"{inner()} || {inner()}"
        return f"({inner()} {self.pick('+', '-', '*', '/', 'mod')} {inner()})"

    def subquery(self, kind, scopes, deep):
        source, columns = self.source(deep, 1)
        inner = [columns, *scopes]
        item = self.value(kind, inner, 0)
        if any(one == kind for name, one in columns):
            item = self.pick(item, f"max({item})", f"min({item})")
        where = f" where {self.condition(inner, deep - 1)}" if self.flag(0.7) else ""
        return f"select {item} from {source}{where}"

    def condition(self, scopes, deep):
        kind = self.pick("int", "int", "text")
        value = lambda: self.value(kind, scopes, 0)
        compared = lambda: f"{value()} {self.pick(*SIGNS)} {value()}"
        if deep <= 0:
            return compared()
        inner = lambda: self.condition(scopes, deep - 1)
        negated = self.pick("", "not ")
        forms = (
            compared, compared, compared, compared, lambda: f"({inner()} and {inner()})",
            lambda: f"({inner()} and {inner()})", lambda: f"({inner()} or {inner()})",
            lambda: f"not ({inner()})", lambda: f"{value()} is {negated}null",
            lambda: f"{value()} {negated}in ({value()}, {value()})",
            lambda: f"{value()} {negated}between {value()} and {value()}",
            lambda: f"{self.value('text', scopes, deep - 1)} {negated}like {self.pick(chr(39) + '*y' + chr(39), chr(39) + 'x_' + chr(39))}",
            lambda: f"exists ({self.subquery(kind, scopes, deep - 1)})",
            lambda: f"{value()} {negated}in ({self.subquery(kind, scopes, deep - 1)})",
        )
        return self.pick(*forms)()

    def source(self, deep, joins):
        self.aliases += 1
        alias = f"s{self.aliases}"
        if deep > 0 and self.flag(0.15):
            text, kinds = self.query(deep - 1)
            return (f"({text}) {alias}", [(f"{alias}.k{place}", kind) for place, kind in enumerate(kinds)])
        if joins > 0 and self.flag(0.55):
            return self.join(deep, joins - 1)
        name = self.pick(*COLUMNS)
        return (f"{name} as {alias}", [(f"{alias}.{column}", kind) for column, kind in COLUMNS[name]])

    def join(self, deep, joins):
        one, first = self.source(deep, joins)
        other, second = self.source(deep, 0)
        columns = [*first, *second]
        word = self.pick(",", "join", "left join")
        if word == ",":
            return (f"{one}, {other}", columns)
        tests = [self.condition([columns], 1)]
        pairs = [f"{here} = {there}" for here, kind in first for there, same in second if kind == same]
        if pairs != [] and self.flag(0.8):
            tests = [self.pick(*pairs), *tests[:self.pick(0, 0, 1)]]
        return (f"{one} {word} {other} on {' and '.join(tests)}", columns)

    def query(self, deep):
        """Return (text, kinds of its columns), whose names are k0, k1 and so on."""
        kinds = [self.pick("int", "text") for _ in range(self.pick(1, 1, 2, 3))]
        text = self.body(kinds, deep)
        if self.flag(0.5):
            orders = [f"{self.chance.randint(1, len(kinds))}{self.pick('', ' desc')}" for _ in range(self.pick(1, 2))]
            text = f"{text} order by {', '.join(orders)}"
        if self.flag(0.3):
            text = f"{text} limit {self.pick(0, 1, 2, 3, 10)}"
        if self.flag(0.2):
            text = f"{text} offset {self.pick(1, 2, 4)}"
        return (text, kinds)

    def body(self, kinds, deep):
        if deep > 0 and self.flag(0.2):
            word = self.pick("union", "except", "intersect") + self.pick("", " all")
            return f"({self.body(kinds, deep - 1)}) {word} ({self.body(kinds, deep - 1)})"
        source, columns = self.source(deep, self.pick(0, 1, 2))
        where = f" where {self.condition([columns], 2)}" if self.flag(0.7) else ""
        if self.flag(0.25):
            return self.grouped(kinds, source, columns, where)
        items = [f"{self.value(kind, [columns], 1)} as k{place}" for place, kind in enumerate(kinds)]
        return f"select {self.pick('', '', 'distinct ')}{', '.join(items)} from {source}{where}"

    def grouped(self, kinds, source, columns, where):
        keys = [column for column in columns if self.flag(0.3)][:2]
        items = []
        for place, kind in enumerate(kinds):
            known = [name for name, one in keys if one == kind]
            calls = [f"{self.pick('min', 'max')}({self.value(kind, [columns], 0)})"]
            if kind == "int":
                calls.extend([f"sum({self.value('int', [columns], 1)})", "count(*)",
                    f"count(distinct {self.column('int', [columns])})"])
            items.append(f"{self.pick(*known) if known and self.flag(0.6) else self.pick(*calls)} as k{place}")
        groups = f" group by {', '.join(name for name, kind in keys)}" if keys else ""
        having = f" having count(*) > {self.pick(0, 1)}" if self.flag(0.3) else ""
        return f"select {', '.join(items)} from {source}{where}{groups}{having}"
