"""Explaining: a physical plan as lines, one for each operation, those that it reads below it and further in."""

from tablestack.physical import physical_inputs
from tablestack.values import value_text

INDENT = "  "
# Expressions that are told by their word alone.
CLOSED = ("in", "inquery", "exists", "scalar", "between", "like", "case")
LITERALS = ("null", "int", "text", "truth", "field")
TRUTHS = {True: "true", False: "false", None: "null"}


def bound_text(tree):
    """Return the text of a bound expression, with brackets around every operation's operands that are operations."""
    word = tree[0]
    if word in CLOSED:
        return f"{word} (..)"
    if word in ("op", "cmp"):
        return f"{operand_text(tree[2])} {tree[1]} {operand_text(tree[3])}"
    if word in ("and", "or"):
        return f"{operand_text(tree[1])} {word} {operand_text(tree[2])}"
    if word == "not":
        return f"not {operand_text(tree[1])}"
    if word == "neg":
        return f"-{operand_text(tree[1])}"
    if word == "isnull":
        return f"{operand_text(tree[1])} is {'not ' if tree[2] else ''}null"
    if word == "field":
        return "^" * tree[1] + str(tree[2] + 1)
    if word == "truth":
        return TRUTHS[tree[1]]
    return value_text(None if word == "null" else tree[1])


def operand_text(tree):
    """Return the text of a bound expression, in brackets if it is an operation."""
    if tree[0] in CLOSED or tree[0] in LITERALS:
        return bound_text(tree)
    return f"({bound_text(tree)})"


def operation_line(plan):
    """Return the line of a physical plan's operation."""
    if plan[0] in LINES:
        line = LINES[plan[0]]
        return line(plan)
    return plan[0]


def scan_line(plan):
    """Return the line of a scan."""
    return f"scan {plan[1]}"


def range_line(plan):
    """Return the line of a key range: the index, and what is asked of its columns, in order."""
    _, name, (index, bounds), _ = plan
    words = [f"range {name} by", "primary key" if index is None else index]
    words.extend([f"= {operand_text(tree)}" for tree in bounds.equals])
    for bound in (bounds.low, bounds.high):
        if bound is not None:
            words.append(f"{bound[0]} {operand_text(bound[1])}")
    return " ".join(words)


def filter_line(plan):
    """Return the line of a filter."""
    return f"filter {bound_text(plan[1])}"


def project_line(plan):
    """Return the line of a projection."""
    return f"project {', '.join([bound_text(tree) for tree in plan[1]])}"


def join_line(plan):
    """Return the line of a join."""
    words = ["left"] if plan[1] else []
    if plan[0] != "join":
        words.append(plan[0])
    return " ".join([*words, "join"])


def group_line(plan):
    """Return the line of a grouping: how many keys and calls it has."""
    return f"group by {len(plan[1])}, {len(plan[2])} calls"


def sort_line(plan):
    """Return the line of a sort."""
    orders = [f"{bound_text(tree)} desc" if descending else bound_text(tree) for tree, descending in plan[1]]
    return f"sort by {', '.join(orders)}"


def limit_line(plan):
    """Return the line of a limit."""
    return f"limit {value_text(plan[1])} offset {plan[2]}"


def combination_line(plan):
    """Return the line of a combination."""
    return f"{plan[0]} all" if plan[1] else plan[0]


LINES = {
    "scan": scan_line, "range": range_line, "filter": filter_line, "project": project_line, "join": join_line,
    "nested": join_line, "hash": join_line, "merge": join_line, "group": group_line, "sort": sort_line,
    "limit": limit_line, "union": combination_line, "except": combination_line, "intersect": combination_line,
}


def explain_lines(plan, deep=0):
    """Return the lines of a physical plan."""
    lines = [INDENT * deep + operation_line(plan)]
    for one in physical_inputs(plan):
        lines.extend(explain_lines(one, deep + 1))
    return lines
