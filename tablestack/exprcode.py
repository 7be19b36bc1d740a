"""Expression code: bound expressions without subqueries as rows of a stack machine, and the machine."""

from tablestack.errors import PlanFault
from tablestack.evaluate import asked, member, within_bounds
from tablestack.plans import bound_parts, has_query
from tablestack.values import arithmetic, both, compare, concat, either, like, negated

LITERALS = ("null", "int", "text", "truth")
ARITHMETIC = ("+", "-", "*", "/", "mod")
JOINING = "||"
COMPARISONS = ("=", "<>", "<", "<=", ">", ">=")
# How many values operations take from the stack; each leaves one there.
TAKEN = {"op": 2, "cmp": 2, "and": 2, "or": 2, "not": 1, "neg": 1, "isnull": 1, "between": 3, "like": 2}
PUSHING = ("push", "field")
JUMPING = ("jump", "unless")


def operation_row(tree):
    """Return the row that carries out an operation on the values on the stack."""
    word = tree[0]
    if word in ("op", "cmp"):
        return (word, tree[1])
    if word in ("and", "or", "not", "neg"):
        return (word,)
    if word in ("isnull", "between", "like"):
        return (word, tree[-1])
    if word == "in":
        return ("in", len(tree[2]), tree[3])
    raise PlanFault(f"no row carries out {word}")


def compile_expression(tree):
    """Return the rows of a bound expression; raise PlanFault for one with a subquery."""
    if has_query(tree):
        raise PlanFault("an expression with a query has no code")
    rows = []
    add_rows(tree, rows)
    return tuple(rows)


def add_rows(tree, rows):
    """Add the rows of a bound expression to some rows."""
    if tree[0] in LITERALS:
        rows.append(("push", None if tree[0] == "null" else tree[1]))
    elif tree[0] == "field":
        rows.append(tree)
    elif tree[0] == "case":
        add_choice(tree, rows)
    else:
        for part in bound_parts(tree):
            add_rows(part, rows)
        rows.append(operation_row(tree))


def add_choice(tree, rows):
    """Add the rows of a choice of values to some rows; a jump is set when the place that it leads to is known."""
    ends = []
    for test, value in tree[1]:
        add_rows(test, rows)
        skip = len(rows)
        rows.append(None)
        add_rows(value, rows)
        ends.append(len(rows))
        rows.append(None)
        rows[skip] = ("unless", len(rows))
    add_rows(tree[2], rows)
    for end in ends:
        rows[end] = ("jump", len(rows))


def stack_need(rows):
    """Return the greatest number of values on the stack at a time, going through the rows in order."""
    most = 0
    many = 0
    for row in rows:
        many += stack_change(row)
        most = max(most, many)
    return most


def stack_change(row):
    """Return how many values more are on the stack after a row; a jump counts as if it dropped one."""
    if row[0] in PUSHING:
        return 1
    if row[0] in JUMPING:
        return -1
    return 1 - taken_by(row)


def taken_by(row):
    """Return how many values a row's operation takes from the stack, none for an unknown one, which leaves none."""
    if row[0] == "in":
        return 1 + row[1]
    return TAKEN.get(row[0], 1)


def run_rows(rows, fields):
    """Return the value that rows leave, given rows of fields, the nearest first; raise PlanFault for invalid rows."""
    stack = []
    place = 0
    steps = 0
    while place < len(rows):
        steps += 1
        if steps > len(rows):
            raise PlanFault("rows go round")
        row = rows[place]
        place += 1
        if row[0] == "jump":
            place = target_of(row)
        elif row[0] == "unless":
            if taken(stack, 1)[0] is not True:
                place = target_of(row)
        elif row[0] == "push":
            stack.append(row[1])
        elif row[0] == "field":
            stack.append(field_at(fields, row))
        else:
            stack.append(carried(row, taken(stack, taken_by(row))))
    if len(stack) != 1:
        raise PlanFault("rows leave no value, or several")
    return stack[0]


def target_of(row):
    """Return the place that a jump leads to; raise PlanFault for one ahead of all rows."""
    if row[1] < 0:
        raise PlanFault("a jump leads nowhere")
    return row[1]


def taken(stack, many):
    """Return so many values from a stack's end, and drop them; raise PlanFault for too few."""
    start = len(stack) - many
    if start < 0:
        raise PlanFault("a row lacks values")
    values = stack[start:]
    del stack[start:]
    return values


def field_at(fields, row):
    """Return the value of a field; raise PlanFault if there is none."""
    _, up, place = row
    if not 0 <= up < len(fields) or not 0 <= place < len(fields[up]):
        raise PlanFault(f"there is no place {place} in a row {up} levels outside")
    return fields[up][place]


def carried(row, values):
    """Return the result of an operation on values; raise PlanFault for an unknown one."""
    if row[0] not in CARRIED or len(values) != taken_by(row):
        raise PlanFault(f"there is no operation {row[0]} on {len(values)} values")
    form = CARRIED[row[0]]
    return form(row, values)


def carried_operation(row, values):
    """Return the result of an arithmetic operation or a joining."""
    if row[1] == JOINING:
        return concat(values[0], values[1])
    if row[1] not in ARITHMETIC:
        raise PlanFault(f"there is no operation {row[1]}")
    return arithmetic(row[1], values[0], values[1])


def carried_comparison(row, values):
    """Return the truth of a comparison of two values."""
    if row[1] not in COMPARISONS:
        raise PlanFault(f"there is no comparison {row[1]}")
    return compare(row[1], values[0], values[1])


def carried_and(_, values):
    """Return the truth of an "and"."""
    return both(values[0], values[1])


def carried_or(_, values):
    """Return the truth of an "or"."""
    return either(values[0], values[1])


def carried_not(_, values):
    """Return the truth of a "not"."""
    return negated(values[0])


def carried_minus(_, values):
    """Return a value with the other sign."""
    return arithmetic("-", 0, values[0])


def carried_isnull(row, values):
    """Return the truth of a comparison with NULL."""
    return asked(values[0] is None, row[1])


def carried_between(row, values):
    """Return the truth of a comparison with two bounds."""
    return asked(within_bounds(values[0], values[1], values[2]), row[1])


def carried_like(row, values):
    """Return the truth of a comparison with a pattern."""
    return asked(like(values[0], values[1]), row[1])


def carried_in(row, values):
    """Return the truth of a comparison with a list."""
    return asked(member(values[0], values[1:]), row[2])


CARRIED = {
    "op": carried_operation, "cmp": carried_comparison, "and": carried_and, "or": carried_or, "not": carried_not,
    "neg": carried_minus, "isnull": carried_isnull, "between": carried_between, "like": carried_like, "in": carried_in,
}
