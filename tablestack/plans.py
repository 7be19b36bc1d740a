"""Plans: queries as trees of operations on rows, with columns told by their places.

A field is ("field", up, place): a place in the current row, or in the row of the query up levels outside. Plans are
("unit",), ("scan", table, width), ("filter", test, plan), ("project", expressions, plan),
("join", left, test, one, other), ("group", keys, aggregates, plan), ("distinct", plan), (word, all, one, other) for
union, except and intersect, ("sort", ((expression, descending), ..), plan) and ("limit", number or None, offset, plan).
"""

from tablestack.errors import PlanFault

MOST_PARTS = 3000
MOST_DEEP = 200
# Where a plan's inputs stand in it; they are its last members.
INPUT_PLACES = {
    "unit": 1, "scan": 3, "filter": 2, "project": 2, "join": 3, "group": 3, "distinct": 1, "union": 2, "except": 2,
    "intersect": 2, "sort": 2, "limit": 3,
}
# Where the direct subexpressions of a bound expression begin and end.
PART_PLACES = {
    "field": (1, 1), "truth": (1, 1), "null": (1, 1), "int": (1, 1), "text": (1, 1), "exists": (1, 1),
    "scalar": (1, 1), "neg": (1, 2), "not": (1, 2), "isnull": (1, 2), "inquery": (1, 2), "op": (2, 4), "cmp": (2, 4),
    "and": (1, 3), "or": (1, 3), "like": (1, 3), "between": (1, 4),
}
# Where the plan of a bound expression with a query stands.
QUERY_PLACES = {"exists": 1, "scalar": 1, "inquery": 2}


def input_place(plan):
    """Return the place where a plan's inputs begin; raise PlanFault for an unknown plan."""
    if plan[0] not in INPUT_PLACES:
        raise PlanFault(f"there is no operation {plan[0]}")
    return INPUT_PLACES[plan[0]]


def inputs(plan):
    """Return the plans that a plan reads, in order."""
    return plan[input_place(plan):]


def with_inputs(plan, inner):
    """Return a plan of the same form that reads other plans."""
    return (*plan[:input_place(plan)], *inner)


def width(plan):
    """Return the number of columns of a plan's rows."""
    if plan[0] == "scan":
        return plan[2]
    if plan[0] == "project":
        return len(plan[1])
    if plan[0] == "group":
        return len(plan[1]) + len(plan[2])
    inner = inputs(plan)
    if plan[0] == "join":
        return width(inner[0]) + width(inner[1])
    if inner == ():
        return 0
    return width(inner[0])


def expressions_of(plan):
    """Return the expressions of a plan itself, in order."""
    if plan[0] == "filter":
        return (plan[1],)
    if plan[0] == "project":
        return tuple(plan[1])
    if plan[0] == "join":
        return () if plan[2] is None else (plan[2],)
    if plan[0] == "group":
        return (*plan[1], *[tree for name, tree, distinct in plan[2] if tree is not None])
    if plan[0] == "sort":
        return tuple([tree for tree, descending in plan[1]])
    return ()


def with_expressions(plan, trees):
    """Return a plan of the same form with other expressions of its own."""
    if plan[0] == "filter":
        return ("filter", trees[0], plan[2])
    if plan[0] == "project":
        return ("project", tuple(trees), plan[2])
    if plan[0] == "join" and plan[2] is not None:
        return ("join", plan[1], trees[0], plan[3], plan[4])
    if plan[0] == "group":
        many = len(plan[1])
        return ("group", tuple(trees[:many]), with_arguments(plan[2], trees[many:]), plan[3])
    if plan[0] == "sort":
        orders = [(tree, order[1]) for tree, order in zip(trees, plan[1])]
        return ("sort", tuple(orders), plan[2])
    return plan


def with_arguments(calls, trees):
    """Return aggregate calls with other expressions for those that have one."""
    found = []
    place = 0
    for name, tree, distinct in calls:
        if tree is None:
            found.append((name, None, distinct))
        else:
            found.append((name, trees[place], distinct))
            place += 1
    return tuple(found)


def tables_of(plan):
    """Return the tables that a plan and the subqueries of its expressions scan, each once, in ascending order."""
    names = [part[1] for part in operations(plan, True) if part[0] == "scan"]
    return tuple(sorted(set(names)))


def operations(plan, whole):
    """Return a plan and all plans that it reads, with those of subqueries if the whole is asked for."""
    found = []
    waiting = [plan]
    while waiting != []:
        part = waiting.pop()
        found.append(part)
        waiting.extend(inputs(part))
        if whole:
            for tree in expressions_of(part):
                waiting.extend(subplans(tree))
    return found


def subplans(tree):
    """Return the plans of the queries in a bound expression, those within these plans left out."""
    found = []
    waiting = [tree]
    while waiting != []:
        part = waiting.pop()
        found.extend(own_plans(part))
        waiting.extend(bound_parts(part))
    return found


def own_plans(tree):
    """Return the plan of a bound expression itself, if it has one."""
    if tree[0] in QUERY_PLACES:
        return (tree[QUERY_PLACES[tree[0]]],)
    return ()


def part_places(tree):
    """Return where the direct subexpressions of a bound expression begin and end; raise PlanFault for another tree."""
    if tree[0] not in PART_PLACES:
        raise PlanFault(f"there is no bound expression {tree[0]}")
    return PART_PLACES[tree[0]]


def bound_parts(tree):
    """Return the direct subexpressions of a bound expression, plans left out."""
    if tree[0] == "in":
        return (tree[1], *tree[2])
    if tree[0] == "case":
        arms = [part for arm in tree[1] for part in arm]
        return (*arms, tree[2])
    start, end = part_places(tree)
    return tree[start:end]


def with_bound_parts(tree, inner):
    """Return a bound expression of the same form with other direct subexpressions."""
    if tree[0] == "in":
        return ("in", inner[0], tuple(inner[1:]), tree[3])
    if tree[0] == "case":
        arms = [(inner[2 * at], inner[2 * at + 1]) for at in range(len(tree[1]))]
        return ("case", tuple(arms), inner[-1])
    start, end = part_places(tree)
    return (*tree[:start], *inner, *tree[end:])


def reads(tree):
    """Return (up, place) of the fields that a bound expression reads in its own row (up 0) and in rows outside."""
    found = []
    waiting = [(tree, 0)]
    while waiting != []:
        part, deep = waiting.pop()
        if part[0] == "field" and part[1] >= deep:
            found.append((part[1] - deep, part[2]))
        waiting.extend([(one, deep) for one in bound_parts(part)])
        for plan in own_plans(part):
            for operation in operations(plan, False):
                waiting.extend([(one, deep + 1) for one in expressions_of(operation)])
    return found


def fields_in(tree, up=0):
    """Return the places of the row up levels outside that an expression reads, each once, in ascending order."""
    return tuple(sorted({place for level, place in reads(tree) if level == up}))


def is_correlated(tree):
    """Return True if an expression reads a row outside its own."""
    return any(level > 0 for level, place in reads(tree))


def reads_outside(plan):
    """Return True if a plan's expressions read a row outside the plan."""
    trees = [tree for operation in operations(plan, False) for tree in expressions_of(operation)]
    return any(is_correlated(tree) for tree in trees)


def moved_fields(tree, table, up=0):
    """Return an expression whose places in the row up levels outside are replaced by those of a table."""
    if tree[0] == "field":
        if tree[1] != up:
            return tree
        return ("field", up, table.get(tree[2], tree[2]))
    inner = [moved_fields(part, table, up) for part in bound_parts(tree)]
    moved = with_bound_parts(tree, inner)
    if tree[0] not in QUERY_PLACES:
        return moved
    at = QUERY_PLACES[tree[0]]
    return (*moved[:at], moved_plan(moved[at], table, up + 1), *moved[at + 1:])


def moved_plan(plan, table, up):
    """Return a plan whose expressions' places in the row up levels outside are replaced by those of a table."""
    trees = [moved_fields(tree, table, up) for tree in expressions_of(plan)]
    inner = [moved_plan(one, table, up) for one in inputs(plan)]
    return with_inputs(with_expressions(plan, trees), inner)


def check_plan(plan):
    """Return a plan; raise PlanFault if it has more than 3000 parts, or parts nested more than 200 deep."""
    many = 0
    waiting = [(plan, True, 1)]
    while waiting != []:
        part, is_plan, level = waiting.pop()
        many += 1
        if level > MOST_DEEP or many > MOST_PARTS:
            raise PlanFault("a plan is too large")
        plans, trees = (inputs(part), expressions_of(part)) if is_plan else (own_plans(part), bound_parts(part))
        waiting.extend([(one, True, level + 1) for one in plans])
        waiting.extend([(one, False, level + 1) for one in trees])
    return plan


def plan_size(plan):
    """Return the number of operations of a plan, subqueries left out."""
    return len(operations(plan, False))


def has_query(tree):
    """Return True if a bound expression has a query."""
    return subplans(tree) != []
