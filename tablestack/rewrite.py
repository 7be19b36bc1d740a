"""Rewriting: plans to equivalent plans that do less."""

from tablestack.errors import KindFault
from tablestack.evaluate import Evaluator
from tablestack.plans import (
    MOST_DEEP, MOST_PARTS, bound_parts, expressions_of, fields_in, has_query, inputs, is_correlated, moved_fields,
    width, with_bound_parts, with_expressions, with_inputs,
)

RULES = ("constants", "merge", "push", "prune", "distinct")
MOST_ROUNDS = 10
# Conditions beyond so many are halved, so that a condition of very many is not nested deep.
LONGEST_CHAIN = 50
TRUE = ("truth", True)
FALSE = ("truth", False)
COMBINATIONS = ("union", "except", "intersect")


def bound_conjuncts(tree):
    """Return the bound conditions that "and" joins."""
    found = []
    waiting = [tree]
    while waiting != []:
        part = waiting.pop()
        if part[0] == "and":
            waiting.append(part[2])
            waiting.append(part[1])
        else:
            found.append(part)
    return tuple(found)


def all_of(tests):
    """Return the condition that some conditions hold together, None for no conditions."""
    if len(tests) == 0:
        return None
    if len(tests) > LONGEST_CHAIN:
        half = len(tests) // 2
        return ("and", all_of(tests[:half]), all_of(tests[half:]))
    tree = tests[0]
    for test in tests[1:]:
        tree = ("and", tree, test)
    return tree


def filtered(tests, plan):
    """Return a plan of the rows of which conditions are true."""
    if len(tests) == 0:
        return plan
    return ("filter", all_of(tests), plan)


def is_constant(tree):
    """Return True if a bound expression reads no field and has no subquery."""
    waiting = [tree]
    while waiting != []:
        part = waiting.pop()
        if part[0] in ("field", "exists", "scalar", "inquery"):
            return False
        waiting.extend(bound_parts(part))
    return True


def literal(value):
    """Return the bound expression of a value or a truth."""
    if value is None:
        return ("null",)
    if value is True:
        return TRUE
    if value is False:
        return FALSE
    if isinstance(value, str):
        return ("text", value)
    return ("int", value)


def folded(tree):
    """Return a bound expression with constant parts reckoned, and "and" and "or" with a known side made shorter."""
    inner = [folded(part) for part in bound_parts(tree)]
    found = with_bound_parts(tree, inner)
    if found[0] in ("and", "or"):
        found = shortened(found)
    if is_constant(found):
        return reckoned(found)
    return found


def shortened(tree):
    """Return an "and" or an "or" without a side that is known."""
    word, one, other = tree
    deciding, neutral = (FALSE, TRUE) if word == "and" else (TRUE, FALSE)
    if deciding in (one, other):
        return deciding
    if one == neutral:
        return other
    if other == neutral:
        return one
    return tree


def reckoned(tree):
    """Return the literal of a constant; one that faults is left, since it may stand where no row is."""
    try:
        return literal(Evaluator(None).value_of(tree))
    except KindFault:
        return tree


def constants(plan):
    """Return a plan with constant parts of expressions reckoned, and without conditions that are true."""
    plan = with_inputs(plan, [constants(one) for one in inputs(plan)])
    plan = with_expressions(plan, [folded(tree) for tree in expressions_of(plan)])
    if plan[0] == "filter" and plan[1] == TRUE:
        return plan[2]
    if plan[0] == "join" and plan[2] == TRUE:
        return ("join", plan[1], None, plan[3], plan[4])
    return plan


def merge(plan):
    """Return a plan with a filter on a filter made one, and a filter on a join made part of its condition."""
    plan = with_inputs(plan, [merge(one) for one in inputs(plan)])
    if plan[0] != "filter":
        return plan
    _, test, inner = plan
    if inner[0] == "filter":
        return ("filter", both_tests(inner[1], test), inner[2])
    if inner[0] == "join" and not inner[1]:
        return ("join", False, both_tests(inner[2], test), inner[3], inner[4])
    return plan


def both_tests(lower, upper):
    """Return the conditions of two operations as one, those of the lower one first."""
    if lower is None:
        return upper
    return all_of(bound_conjuncts(lower) + bound_conjuncts(upper))


def pushed(plan):
    """Return a plan whose conditions stand as far below as they may."""
    plan = with_inputs(plan, [pushed(one) for one in inputs(plan)])
    if plan[0] == "filter":
        tests = bound_conjuncts(plan[1])
        inner, rest = sunk(tests, plan[2])
        return plan if rest == tests else filtered(rest, inner)
    if plan[0] == "join" and plan[2] is not None:
        return pushed_join(plan)
    return plan


def pushed_join(plan):
    """Return a join whose conditions stand at the side that they read alone, of a left join only at the second one."""
    _, left, test, one, other = plan
    tests = bound_conjuncts(test)
    first, second, rest = split_tests(tests, width(one), not left, True)
    if rest == tests:
        return plan
    return ("join", left, all_of(rest), placed(first, one), placed(second, other))


def split_tests(tests, many, to_first, to_second):
    """Return (conditions of the first side alone, of the second side alone, others) of a join.

    Those of the second side have its own places; a side to which no condition may go has none.
    """
    first, second, rest = [], [], []
    for test in tests:
        places = fields_in(test)
        if to_first and places != () and places[-1] < many:
            first.append(test)
        elif to_second and places != () and places[0] >= many:
            second.append(moved_fields(test, {place: place - many for place in places}))
        else:
            rest.append(test)
    return (tuple(first), tuple(second), tuple(rest))


def placed(tests, plan):
    """Return a plan with conditions as far below in it as they may stand."""
    inner, rest = sunk(tests, plan)
    return filtered(rest, inner)


def sunk(tests, plan):
    """Return (plan, conditions that do not go into it): conditions on a plan's rows stand as far below as they may."""
    word = plan[0]
    if tests == ():
        return (plan, ())
    if word == "filter":
        inner, rest = sunk(tests, plan[2])
        return (("filter", plan[1], inner), rest)
    if word in ("sort", "distinct"):
        return (with_inputs(plan, [placed(tests, plan[-1])]), ())
    if word in COMBINATIONS:
        second = plan[3] if word == "except" else placed(tests, plan[3])
        return ((word, plan[1], placed(tests, plan[2]), second), ())
    if word == "join":
        _, left, test, one, other = plan
        first, second, rest = split_tests(tests, width(one), True, not left)
        return (("join", left, test, placed(first, one), placed(second, other)), rest)
    if word == "project":
        return sunk_below(tests, plan)
    return (plan, tests)


def sunk_below(tests, plan):
    """Return (plan, conditions that do not go into it) of conditions on a projection: those that read fields go."""
    trees = plan[1]
    moved, rest = [], []
    for test in tests:
        places = fields_in(test)
        if all(trees[place][0] == "field" and trees[place][1] == 0 for place in places):
            moved.append(moved_fields(test, {place: trees[place][2] for place in places}))
        else:
            rest.append(test)
    return (("project", trees, placed(tuple(moved), plan[2])), tuple(rest))


def pruned(plan):
    """Return a plan with projections of projections made one, and without those of all columns in order."""
    plan = with_inputs(plan, [pruned(one) for one in inputs(plan)])
    if plan[0] != "project":
        return plan
    _, trees, inner = plan
    while inner[0] == "project" and is_joinable(trees, inner[1]):
        trees = tuple([replaced(tree, inner[1]) for tree in trees])
        inner = inner[2]
    if trees == tuple([("field", 0, place) for place in range(width(inner))]):
        return inner
    return ("project", trees, inner)


def is_joinable(upper, lower):
    """Return True if expressions may take in those whose fields they read: plain ones, if few parts come of it.

    Nor may they be nested deeper than a plan's parts may be.
    """
    if any(has_query(tree) or is_correlated(tree) for tree in (*upper, *lower)):
        return False
    inner = [size_of(tree, None) for tree in lower]
    outer = [size_of(tree, inner) for tree in upper]
    return sum([many for many, deep in outer]) <= MOST_PARTS and all(deep <= MOST_DEEP for many, deep in outer)


def size_of(tree, sizes):
    """Return (number of parts, how deep they are nested) of an expression, whose fields may count as others."""
    if tree[0] == "field" and sizes is not None:
        return sizes[tree[2]]
    inner = [size_of(part, sizes) for part in bound_parts(tree)]
    return (1 + sum([many for many, deep in inner]), 1 + max([0, *[deep for many, deep in inner]]))


def replaced(tree, trees):
    """Return an expression whose fields are replaced by expressions."""
    if tree[0] == "field":
        return trees[tree[2]]
    return with_bound_parts(tree, [replaced(part, trees) for part in bound_parts(tree)])


def is_distinct(plan):
    """Return True if no two rows of a plan can be equal."""
    return key_places(plan) is not None


def key_places(plan):
    """Return places in which any two rows of a plan differ (none if there is one row at most), None if it has none."""
    inner = inputs(plan)
    word = plan[0]
    if word == "unit" or (word == "limit" and plan[1] is not None and plan[1] <= 1):
        return ()
    if word == "scan":
        return None
    if word == "group":
        return tuple(range(len(plan[1])))
    if word in COMBINATIONS:
        return combination_key(plan)
    first = key_places(inner[0])
    if word == "distinct" and first is None:
        return tuple(range(width(plan)))
    if word == "project" and first is not None:
        return projected_key(first, plan[1])
    if word == "join" and first is not None:
        return joined_key(first, key_places(inner[1]), width(inner[0]))
    return first


def combination_key(plan):
    """Return places in which any two rows of a combination differ, None if it has none."""
    word, whole, one, other = plan
    if word != "union":
        first = key_places(one)
        if first is not None:
            return first
    if word == "intersect":
        second = key_places(other)
        if second is not None:
            return second
    if whole:
        return None
    return tuple(range(width(plan)))


def projected_key(key, trees):
    """Return where a projection has the places of a key, None if it lacks one."""
    found = []
    for place in key:
        if ("field", 0, place) not in trees:
            return None
        found.append(trees.index(("field", 0, place)))
    return tuple(found)


def joined_key(first, second, many):
    """Return the places of two sides' keys in a join of both, None if one has no key."""
    if second is None:
        return None
    return (*first, *[many + place for place in second])


def inner_orders(plan, is_wanted):
    """Return whether the order of each plan that a plan reads counts, given whether that of its own rows does.

    It counts below a limit that cuts rows, up to a sort by all columns.
    """
    if plan[0] == "limit":
        most, offset = plan[1], plan[2]
        if most is None:
            return (is_wanted or offset > 0,)
        return (most > 0,)
    if plan[0] == "sort":
        fields = [tree for tree, descending in plan[1]]
        return (is_wanted and not all(("field", 0, place) in fields for place in range(width(plan))),)
    if plan[0] in ("except", "intersect"):
        return (is_wanted, False)
    return (is_wanted,) * len(inputs(plan))


def without_repeats(plan, is_wanted=False):
    """Return a plan without distincts over rows that differ, and without sorts whose order is lost and cuts no rows."""
    counts = inner_orders(plan, is_wanted)
    plan = with_inputs(plan, [without_repeats(one, counts[place]) for place, one in enumerate(inputs(plan))])
    if plan[0] in ("distinct", "group", "sort") and plan[-1][0] == "sort" and not counts[0]:
        plan = with_inputs(plan, [plan[-1][-1]])
    if plan[0] == "distinct" and is_distinct(plan[1]):
        return plan[1]
    return plan


STEPS = {"constants": constants, "merge": merge, "push": pushed, "prune": pruned, "distinct": without_repeats}


def rewrite_once(name, plan):
    """Return what a rule makes of a plan."""
    step = STEPS[name]
    return step(plan)


def rewrite(plan, rules=RULES):
    """Return an equivalent plan: all rules in order, again and again until nothing changes, ten times at most."""
    for _ in range(MOST_ROUNDS):
        before = plan
        for name in rules:
            plan = rewrite_once(name, plan)
        if plan == before:
            return plan
    return plan
