"""Parser: texts to statements."""

from tablestack.errors import TextError
from tablestack.lexer import END, INT_KIND
from tablestack.syntax import QueryReader

MOST_NESTED = 100
KINDS = {INT_KIND: "int", "text": "text"}


def parse(text):
    """Return the statement of a text, perhaps with ";" at its end; raise TextError for an invalid text."""
    reader = QueryReader(text)
    tree = read_statement(reader)
    reader.take(";")
    reader.finish()
    return tree


def parse_script(text):
    """Return the statements of a text, each but the last one before ";"; raise TextError for an invalid text."""
    reader = QueryReader(text)
    statements = []
    while reader.ahead() != END:
        statements.append(read_statement(reader))
        if not reader.take(";") and reader.ahead() != END:
            raise TextError("a ; is missing between two statements")
    return tuple(statements)


def parse_expression(text):
    """Return the expression of a text; raise TextError for an invalid text."""
    reader = QueryReader(text)
    tree = reader.expression()
    reader.finish()
    return checked(tree)


def checked(tree):
    """Return a tree; raise TextError if its tuples are nested too deep."""
    waiting = [(tree, 1)]
    while waiting != []:
        part, deep = waiting.pop()
        if deep > MOST_NESTED:
            raise TextError("a statement is nested too deep")
        waiting.extend([(one, deep + 1) for one in part if isinstance(one, tuple)])
    return tree


def read_statement(reader):
    """Return the next statement."""
    word = reader.ahead()
    if word in ("select", "("):
        return checked(reader.query())
    if word not in STATEMENTS:
        raise TextError(f"no statement begins with {word}")
    reader.taken(word)
    read = STATEMENTS[word]
    return checked(read(reader, word))


def read_simple(reader, word):
    """Return a statement of one word, or a rollback to a savepoint."""
    if word == "rollback" and reader.take("to"):
        return ("rollback_to", reader.taken_name())
    return (word,)


def read_named(reader, word):
    """Return a statement of a word and a name."""
    return (word, reader.taken_name())


def read_explain(reader, word):
    """Return a query that is to be explained."""
    return (word, reader.query())


def read_insert(reader, word):
    """Return an insertion; a bracket behind the table holds columns, or a query that begins with a bracket."""
    reader.taken("into")
    table = reader.taken_name()
    columns = None
    if reader.ahead() == "(" and reader.ahead(1) == "name":
        columns = reader.taken_names()
    if not reader.take("values"):
        return (word, table, columns, reader.query())
    rows = [read_row(reader)]
    while reader.take(","):
        rows.append(read_row(reader))
    return (word, table, columns, ("rows", tuple(rows)))


def read_row(reader):
    """Return the expressions of a row in brackets."""
    reader.taken("(")
    row = reader.separated(reader.expression)
    reader.taken(")")
    return row


def read_update(reader, word):
    """Return an update."""
    table = reader.taken_name()
    reader.taken("set")
    changes = [read_change(reader)]
    while reader.take(","):
        changes.append(read_change(reader))
    return (word, table, tuple(changes), read_where(reader))


def read_change(reader):
    """Return a column and the expression that it is set to."""
    column = reader.taken_name()
    reader.taken("=")
    return (column, reader.expression())


def read_where(reader):
    """Return the condition of an update or a deletion, None if there is none."""
    if reader.take("where"):
        return reader.expression()
    return None


def read_delete(reader, word):
    """Return a deletion."""
    reader.taken("from")
    table = reader.taken_name()
    return (word, table, read_where(reader))


def read_create(reader, _):
    """Return a statement that creates a table, an index or a view."""
    if reader.take("table"):
        return read_table(reader)
    if reader.take("view"):
        name = reader.taken_name()
        reader.taken("as")
        return ("create_view", name, reader.query())
    unique = reader.take("unique")
    reader.taken("index")
    name = reader.taken_name()
    reader.taken("on")
    table = reader.taken_name()
    return ("create_index", unique, name, table, reader.taken_names())


def read_table(reader):
    """Return the statement that creates a table, from its name on."""
    name = reader.taken_name()
    columns = []
    rules = []
    reader.taken("(")
    while True:
        if reader.ahead() in RULES:
            read = RULES[reader.ahead()]
            rules.append(read(reader))
        else:
            columns.append(read_column(reader))
        if not reader.take(","):
            reader.taken(")")
            return ("create_table", name, tuple(columns), tuple(rules))


def read_column(reader):
    """Return a column's name, its kind, whether NULL is refused, and its default."""
    name = reader.taken_name()
    word = reader.ahead()
    if word not in KINDS:
        raise TextError(f"a column's kind is missing before {word}")
    reader.taken(word)
    needed = False
    default = None
    while reader.ahead() in ("not", "default"):
        if default is None and reader.take("default"):
            default = read_default(reader)
        elif not needed and reader.take("not"):
            reader.taken("null")
            needed = True
        else:
            raise TextError("a column's words stand twice")
    return (name, KINDS[word], needed, default)


def read_default(reader):
    """Return a default: a literal, or a single name, which is refused when the table is declared."""
    if reader.ahead() == "name":
        return ("col", None, reader.taken_name())
    if reader.take("-"):
        return ("int", 0 - reader.taken("int"))
    return reader.literal()


def read_primary(reader):
    """Return the rule of a primary key."""
    reader.taken("primary")
    reader.taken("key")
    return ("primary", reader.taken_names())


def read_unique(reader):
    """Return the rule of a unique constraint."""
    reader.taken("unique")
    return ("unique", reader.taken_names())


def read_foreign(reader):
    """Return the rule of a reference."""
    reader.taken("foreign")
    reader.taken("key")
    columns = reader.taken_names()
    reader.taken("references")
    table = reader.taken_name()
    return ("foreign", columns, table, reader.taken_names())


def read_check(reader):
    """Return the rule of a check."""
    reader.taken("check")
    reader.taken("(")
    tree = reader.expression()
    reader.taken(")")
    return ("check", tree)


def read_drop(reader, _):
    """Return a statement that drops a table, an index or a view."""
    if reader.take("table"):
        return ("drop_table", reader.taken_name())
    if reader.take("view"):
        return ("drop_view", reader.taken_name())
    reader.taken("index")
    name = reader.taken_name()
    # A constraint's index can be named, so that dropping it is refused for what it is.
    if reader.take("."):
        number = reader.taken("int")
        return ("drop_index", f"{name}.{number}")
    return ("drop_index", name)


RULES = {"primary": read_primary, "unique": read_unique, "foreign": read_foreign, "check": read_check}
STATEMENTS = {
    "explain": read_explain, "insert": read_insert, "update": read_update, "delete": read_delete,
    "create": read_create, "drop": read_drop, "analyze": read_named, "begin": read_simple, "commit": read_simple,
    "rollback": read_simple, "savepoint": read_named, "release": read_named,
}
