"""Syntax: expressions and queries read from tokens."""

from tablestack.errors import TextError
from tablestack.reader import Reader
from tablestack.values import AGGREGATES

# How tightly operators bind, the loosest first.
LOGIC = {"or": 1, "and": 2}
TIGHTEST_LOGIC = 3
ARITHMETIC = {"+": 5, "-": 5, "||": 5, "*": 6, "/": 6, "mod": 6}
LOOSEST_ARITHMETIC = 5
COMPARISONS = ("=", "<>", "<", "<=", ">", ">=")
LITERALS = {"int": "int", "quoted": "text"}
# What may go on a query behind a bracket that holds its beginning.
GOING_ON = ("union", "except", "intersect", "order", "limit", "offset")


class QueryReader(Reader):
    """A reader of expressions and queries."""

    def expression(self):
        """Return the next expression."""
        self.enter()
        tree = self.condition(1)
        self.leave()
        return tree

    def condition(self, least):
        """Return operations that bind at least so tightly, "or" and "and" included."""
        if self.take("not"):
            self.enter()
            tree = ("not", self.condition(TIGHTEST_LOGIC))
            self.leave()
        else:
            tree = self.comparison()
        while LOGIC.get(self.ahead(), 0) >= least:
            word = self.ahead()
            self.taken(word)
            tree = (word, tree, self.condition(LOGIC[word] + 1))
        return tree

    def comparison(self):
        """Return an amount, perhaps with a comparison behind it."""
        first = self.amount(LOOSEST_ARITHMETIC)
        word = self.ahead()
        if word in COMPARISONS:
            self.taken(word)
            return ("cmp", word, first, self.amount(LOOSEST_ARITHMETIC))
        if self.take("is"):
            negated = self.take("not")
            self.taken("null")
            return ("isnull", first, negated)
        if word in ("not", "in", "between", "like"):
            return self.membership(first, self.take("not"))
        return first

    def membership(self, first, negated):
        """Return a comparison of an amount with several others or a pattern."""
        if self.take("between"):
            low = self.amount(LOOSEST_ARITHMETIC)
            self.taken("and")
            return ("between", first, low, self.amount(LOOSEST_ARITHMETIC), negated)
        if self.take("like"):
            return ("like", first, self.amount(LOOSEST_ARITHMETIC), negated)
        self.taken("in")
        if self.begins_query(self.place):
            return ("inquery", first, self.bracketed_query(), negated)
        self.taken("(")
        members = self.separated(self.expression)
        self.taken(")")
        return ("in", first, members, negated)

    def amount(self, least):
        """Return arithmetic operations that bind at least so tightly."""
        tree = self.operand()
        while ARITHMETIC.get(self.ahead(), 0) >= least:
            word = self.ahead()
            self.taken(word)
            tree = ("op", word, tree, self.amount(ARITHMETIC[word] + 1))
        return tree

    def operand(self):
        """Return what binds more tightly than all operators of two sides."""
        word = self.ahead()
        if word == "-":
            return self.minus()
        if word == "(":
            return self.bracketed()
        if word == "case":
            return self.choice()
        if word == "name":
            return self.named()
        if self.take("exists"):
            return ("exists", self.bracketed_query())
        return self.literal()

    def minus(self):
        """Return a negative number, or what stands behind a minus."""
        self.taken("-")
        if self.ahead() == "int":
            return ("int", 0 - self.taken("int"))
        self.enter()
        tree = ("neg", self.operand())
        self.leave()
        return tree

    def bracketed(self):
        """Return an expression in brackets, or a query that gives a value."""
        if self.begins_query(self.place):
            return ("scalar", self.bracketed_query())
        self.taken("(")
        tree = self.expression()
        self.taken(")")
        return tree

    def choice(self):
        """Return a choice of values."""
        self.taken("case")
        arms = []
        while arms == [] or self.ahead() == "when":
            self.taken("when")
            test = self.expression()
            self.taken("then")
            arms.append((test, self.expression()))
        self.taken("else")
        other = self.expression()
        self.taken("end")
        return ("case", tuple(arms), other)

    def named(self):
        """Return a column, or the call of an aggregate, whose names are no keywords."""
        name = self.taken_name()
        if name in AGGREGATES and self.take("("):
            return self.call(name)
        if self.take("."):
            return ("col", name, self.taken_name())
        return ("col", None, name)

    def call(self, name):
        """Return the call of an aggregate, from behind its bracket on."""
        if name == "count" and self.take("*"):
            self.taken(")")
            return ("agg", name, None, False)
        distinct = self.take("distinct")
        tree = self.expression()
        self.taken(")")
        return ("agg", name, tree, distinct)

    def literal(self):
        """Return a value."""
        if self.take("null"):
            return ("null",)
        word = self.ahead()
        if word not in LITERALS:
            raise TextError(f"a value is missing before {word}")
        return (LITERALS[word], self.taken(word))

    def begins_query(self, place):
        """Return True if the bracket at a place holds a query; a query in two brackets does not count."""
        if self.word_at(place) != "(":
            return False
        inner = self.word_at(place + 1)
        if inner == "(":
            return self.word_at(self.closers[place + 1] + 1) in GOING_ON
        return inner == "select"

    def bracketed_query(self):
        """Return a query in brackets."""
        self.taken("(")
        tree = self.query()
        self.taken(")")
        return tree

    def query(self):
        """Return the next query."""
        self.enter()
        body = self.body()
        orders = ()
        if self.take("order"):
            self.taken("by")
            orders = self.separated(self.order)
        limit = None
        if self.take("limit"):
            limit = self.taken("int")
        offset = 0
        if self.take("offset"):
            offset = self.taken("int")
        self.leave()
        return ("query", body, orders, limit, offset)

    def order(self):
        """Return an expression to order by, and whether the order descends."""
        tree = self.expression()
        if self.take("desc"):
            return (tree, True)
        self.take("asc")
        return (tree, False)

    def body(self):
        """Return selects and their combinations."""
        tree = self.tight_body()
        while self.ahead() in ("union", "except"):
            word = self.ahead()
            self.taken(word)
            whole = self.take("all")
            tree = (word, whole, tree, self.tight_body())
        return tree

    def tight_body(self):
        """Return selects and their intersections."""
        tree = self.body_part()
        while self.take("intersect"):
            whole = self.take("all")
            tree = ("intersect", whole, tree, self.body_part())
        return tree

    def body_part(self):
        """Return a select, or combinations in brackets."""
        if self.ahead() != "(":
            return self.select()
        self.taken("(")
        self.enter()
        tree = self.body()
        self.leave()
        self.taken(")")
        return tree

    def select(self):
        """Return a select."""
        self.taken("select")
        distinct = self.take("distinct")
        items = self.separated(self.item)
        source = None
        if self.take("from"):
            source = self.source()
        where = self.expression() if self.take("where") else None
        groups = ()
        if self.take("group"):
            self.taken("by")
            groups = self.separated(self.expression)
        having = self.expression() if self.take("having") else None
        return ("select", distinct, items, source, where, groups, having)

    def item(self):
        """Return an item of a select."""
        if self.take("*"):
            return ("star", None)
        if self.ahead() == "name" and self.ahead(1) == "." and self.ahead(2) == "*":
            table = self.taken_name()
            self.taken(".")
            self.taken("*")
            return ("star", table)
        tree = self.expression()
        if self.take("as"):
            return (tree, self.taken_name())
        return (tree, None)

    def source(self):
        """Return what a select reads, joined from left to right.

        A join in brackets is not read within the one around it, since nothing bounds how many brackets stand there.
        """
        around = []
        tree = None
        word = None
        while True:
            while self.begins_join():
                self.taken("(")
                around.append((tree, word))
                tree = None
                word = None
            tree = self.joined(tree, word, self.side())
            while around != [] and self.take(")"):
                if tree[0] != "join":
                    raise TextError("only a query or a join stands in brackets here")
                before, word = around.pop()
                tree = self.joined(before, word, tree)
            word = self.joining_word()
            if word is None:
                if around != []:
                    self.taken(")")
                return tree

    def begins_join(self):
        """Return True if the next token is a bracket that holds no query."""
        return self.ahead() == "(" and not self.begins_query(self.wrapped[self.place])

    def joining_word(self):
        """Return the word by which the next side is joined, None if there is none, and move behind it."""
        if self.take(","):
            return ","
        if self.take("left"):
            self.taken("join")
            return "left"
        if self.take("join"):
            return "join"
        return None

    def joined(self, tree, word, other):
        """Return a source and the next side of its join, whose condition follows; the side alone if it is the first."""
        if word is None:
            return other
        if word == ",":
            return ("join", False, tree, other, None)
        self.taken("on")
        return ("join", word == "left", tree, other, self.expression())

    def side(self):
        """Return a table, or a query with a name."""
        if self.ahead() == "(":
            query = self.bracketed_query()
            self.take("as")
            return ("sub", query, self.taken_name())
        name = self.taken_name()
        if self.take("as") or self.ahead() == "name":
            return ("table", name, self.taken_name())
        return ("table", name, name)
