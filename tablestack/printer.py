"""Printer: statements, queries and expressions as text that parses to the same tree."""

from tablestack.lexer import DIGITS
from tablestack.values import quoted

LEVELS = {
    "or": 1, "and": 2, "not": 3, "cmp": 4, "isnull": 4, "in": 4, "inquery": 4, "between": 4, "like": 4, "neg": 7,
}
SIGN_LEVELS = {"+": 5, "-": 5, "||": 5, "*": 6, "/": 6, "mod": 6}
COMPARED = 5
NEGATED = 7
WHOLE = 8
COMBINATIONS = {"union": 1, "except": 1, "intersect": 2}
SELECT = 3


def level_of(tree):
    """Return how tightly an expression binds: 1 for "or" up to 8 for what needs no brackets."""
    if tree[0] == "op":
        return SIGN_LEVELS[tree[1]]
    return LEVELS.get(tree[0], WHOLE)


def expression_text(tree):
    """Return the text of an expression, with as few brackets as the grammar needs."""
    write = EXPRESSIONS[tree[0]]
    return write(tree)


def operand_text(tree, level):
    """Return the text of an operand, in brackets if it binds less tightly than a level."""
    if level_of(tree) < level:
        return f"({expression_text(tree)})"
    return expression_text(tree)


def word_if(wanted, word):
    """Return a word if it is wanted, else nothing."""
    return word if wanted else ""


def behind_minus(text):
    """Return an operand's text as it may stand behind a minus: a negative number that it begins with in brackets."""
    if text[0] != "-" or text[1] not in DIGITS:
        return text
    end = 1
    while end < len(text) and text[end] in DIGITS:
        end += 1
    return f"({text[:end]}){text[end:]}"


def null_text(_):
    """Return the text of NULL."""
    return "null"


def int_text(tree):
    """Return the text of an integer."""
    return str(tree[1])


def text_text(tree):
    """Return the text of a text."""
    return quoted(tree[1])


def column_text(tree):
    """Return the text of a column."""
    if tree[1] is None:
        return tree[2]
    return f"{tree[1]}.{tree[2]}"


def operation_text(tree):
    """Return the text of an arithmetic operation."""
    _, sign, one, other = tree
    level = level_of(tree)
    second = operand_text(other, level + 1)
    if sign == "-":
        second = behind_minus(second)
    return f"{operand_text(one, level)} {sign} {second}"


def minus_text(tree):
    """Return the text of a minus; a number behind it would be a negative one, two minuses a comment."""
    inner = operand_text(tree[1], NEGATED)
    if inner[0] in DIGITS:
        return f"-({inner})"
    inner = behind_minus(inner)
    if inner[0] == "-":
        return f"- {inner}"
    return f"-{inner}"


def comparison_text(tree):
    """Return the text of a comparison."""
    return f"{operand_text(tree[2], COMPARED)} {tree[1]} {operand_text(tree[3], COMPARED)}"


def logic_text(tree):
    """Return the text of an "and" or an "or"."""
    level = level_of(tree)
    return f"{operand_text(tree[1], level)} {tree[0]} {operand_text(tree[2], level + 1)}"


def not_text(tree):
    """Return the text of a "not"."""
    return f"not {operand_text(tree[1], level_of(tree))}"


def isnull_text(tree):
    """Return the text of a comparison with NULL."""
    return f"{operand_text(tree[1], COMPARED)} is {word_if(tree[2], 'not ')}null"


def compared_text(tree, word, negated):
    """Return the text of a comparison's first side and its word, perhaps with "not"."""
    return f"{operand_text(tree[1], COMPARED)} {word_if(negated, 'not ')}{word}"


def in_text(tree):
    """Return the text of a comparison with a list."""
    return f"{compared_text(tree, 'in', tree[3])} ({expressions_text(tree[2])})"


def inquery_text(tree):
    """Return the text of a comparison with a query's rows."""
    return f"{compared_text(tree, 'in', tree[3])} ({query_text(tree[2])})"


def between_text(tree):
    """Return the text of a comparison with two bounds."""
    low = operand_text(tree[2], COMPARED)
    high = operand_text(tree[3], COMPARED)
    return f"{compared_text(tree, 'between', tree[4])} {low} and {high}"


def like_text(tree):
    """Return the text of a comparison with a pattern."""
    return f"{compared_text(tree, 'like', tree[3])} {operand_text(tree[2], COMPARED)}"


def case_text(tree):
    """Return the text of a choice of values."""
    arms = [f"when {expression_text(test)} then {expression_text(value)}" for test, value in tree[1]]
    return f"case {' '.join(arms)} else {expression_text(tree[2])} end"


def exists_text(tree):
    """Return the text of a question for rows."""
    return f"exists ({query_text(tree[1])})"


def scalar_text(tree):
    """Return the text of a query that gives a value."""
    return f"({query_text(tree[1])})"


def call_text(tree):
    """Return the text of an aggregate's call."""
    _, name, inner, distinct = tree
    if inner is None:
        return f"{name}(*)"
    return f"{name}({word_if(distinct, 'distinct ')}{expression_text(inner)})"


def expressions_text(trees):
    """Return the texts of expressions with commas between."""
    return ", ".join([expression_text(tree) for tree in trees])


def query_text(query):
    """Return the text of a query."""
    _, body, orders, limit, offset = query
    text = body_text(body)
    if orders != ():
        texts = [f"{expression_text(tree)}{word_if(descending, ' desc')}" for tree, descending in orders]
        text = f"{text} order by {', '.join(texts)}"
    if limit is not None:
        text = f"{text} limit {limit}"
    if offset != 0:
        text = f"{text} offset {offset}"
    return text


def body_text(body):
    """Return the text of a select or a combination."""
    if body[0] == "select":
        return select_text(body)
    word, whole, one, other = body
    level = COMBINATIONS[word]
    return f"{part_text(one, level)} {word}{word_if(whole, ' all')} {part_text(other, level + 1)}"


def part_text(body, level):
    """Return the text of a combination's side, in brackets if it binds less tightly than a level."""
    if COMBINATIONS.get(body[0], SELECT) < level:
        return f"({body_text(body)})"
    return body_text(body)


def select_text(body):
    """Return the text of a select."""
    _, distinct, items, source, where, groups, having = body
    texts = [item_text(item) for item in items]
    text = f"select {word_if(distinct, 'distinct ')}{', '.join(texts)}"
    if source is not None:
        text = f"{text} from {source_text(source)}"
    if where is not None:
        text = f"{text} where {expression_text(where)}"
    if groups != ():
        text = f"{text} group by {expressions_text(groups)}"
    if having is not None:
        text = f"{text} having {expression_text(having)}"
    return text


def item_text(item):
    """Return the text of a select's item."""
    one, name = item
    if one == "star":
        return "*" if name is None else f"{name}.*"
    if name is None:
        return expression_text(one)
    return f"{expression_text(one)} as {name}"


def source_text(source):
    """Return the text of what a select reads."""
    if source[0] == "table":
        return source[1] if source[1] == source[2] else f"{source[1]} as {source[2]}"
    if source[0] == "sub":
        return f"({query_text(source[1])}) as {source[2]}"
    _, left, one, other, test = source
    second = source_text(other)
    if other[0] == "join":
        second = f"({second})"
    if test is None:
        return f"{source_text(one)}, {second}"
    return f"{source_text(one)} {word_if(left, 'left ')}join {second} on {expression_text(test)}"


EXPRESSIONS = {
    "null": null_text, "int": int_text, "text": text_text, "col": column_text, "op": operation_text,
    "neg": minus_text, "cmp": comparison_text, "and": logic_text, "or": logic_text, "not": not_text,
    "isnull": isnull_text, "in": in_text, "inquery": inquery_text, "between": between_text, "like": like_text,
    "case": case_text, "exists": exists_text, "scalar": scalar_text, "agg": call_text,
}


def statement_text(statement):
    """Return the text of a statement."""
    write = STATEMENTS[statement[0]]
    return write(statement)


def names_text(names):
    """Return names in brackets."""
    return f"({', '.join(names)})"


def simple_text(statement):
    """Return the text of a statement of words and perhaps a name."""
    return " ".join([WORDS.get(statement[0], statement[0]), *statement[1:]])


def explain_text(statement):
    """Return the text of a query that is to be explained."""
    return f"explain {query_text(statement[1])}"


def insert_text(statement):
    """Return the text of an insertion."""
    _, table, columns, source = statement
    start = f"insert into {table}"
    if columns is not None:
        start = f"{start} {names_text(columns)}"
    if source[0] == "query":
        return f"{start} {query_text(source)}"
    rows = [f"({expressions_text(row)})" for row in source[1]]
    return f"{start} values {', '.join(rows)}"


def where_text(test):
    """Return the text of the condition of an update or a deletion."""
    if test is None:
        return ""
    return f" where {expression_text(test)}"


def update_text(statement):
    """Return the text of an update."""
    _, table, changes, test = statement
    texts = [f"{column} = {expression_text(tree)}" for column, tree in changes]
    return f"update {table} set {', '.join(texts)}{where_text(test)}"


def delete_text(statement):
    """Return the text of a deletion."""
    return f"delete from {statement[1]}{where_text(statement[2])}"


def table_text(statement):
    """Return the text that creates a table."""
    _, name, columns, rules = statement
    parts = [declaration_text(column) for column in columns] + [rule_text(rule) for rule in rules]
    return f"create table {name} ({', '.join(parts)})"


def declaration_text(column):
    """Return the text that declares a column."""
    name, kind, needed, default = column
    text = f"{name} {kind}{word_if(needed, ' not null')}"
    if default is None:
        return text
    return f"{text} default {expression_text(default)}"


def rule_text(rule):
    """Return the text of a table's rule."""
    if rule[0] == "check":
        return f"check ({expression_text(rule[1])})"
    if rule[0] == "foreign":
        return f"foreign key {names_text(rule[1])} references {rule[2]} {names_text(rule[3])}"
    if rule[0] == "primary":
        return f"primary key {names_text(rule[1])}"
    return f"unique {names_text(rule[1])}"


def index_text(statement):
    """Return the text that creates an index."""
    _, unique, name, table, columns = statement
    return f"create {word_if(unique, 'unique ')}index {name} on {table} {names_text(columns)}"


def view_text(statement):
    """Return the text that creates a view."""
    return f"create view {statement[1]} as {query_text(statement[2])}"


WORDS = {"drop_table": "drop table", "drop_index": "drop index", "drop_view": "drop view", "rollback_to": "rollback to"}
STATEMENTS = {
    "query": query_text, "explain": explain_text, "insert": insert_text, "update": update_text,
    "delete": delete_text, "create_table": table_text, "create_index": index_text, "create_view": view_text,
    "drop_table": simple_text, "drop_index": simple_text, "drop_view": simple_text, "analyze": simple_text,
    "begin": simple_text, "commit": simple_text, "rollback": simple_text, "savepoint": simple_text,
    "rollback_to": simple_text, "release": simple_text,
}
