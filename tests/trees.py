"""Short names of bound expressions and plans for tests."""

NULL = ("null",)
TRUE = ("truth", True)
FALSE = ("truth", False)
UNIT = ("unit",)
# A comparison that faults when it is reached.
FAULTY = ("cmp", "=", ("int", 1), ("text", "a"))


def num(number):
    return ("int", number)


def text(signs):
    return ("text", signs)


def field(place, up=0):
    return ("field", up, place)


def fields(many):
    return tuple(field(place) for place in range(many))


def cmp(sign, one, other):
    return ("cmp", sign, one, other)


def equal(one, other):
    return ("cmp", "=", one, other)


def both(*tests):
    tree = tests[0]
    for test in tests[1:]:
        tree = ("and", tree, test)
    return tree


def up(*places):
    """Return ascending orders on fields."""
    return tuple((field(place), False) for place in places)
