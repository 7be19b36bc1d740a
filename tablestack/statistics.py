"""Statistics: what is known of a table's columns, and how many rows conditions are expected to leave."""

from tablestack.values import rank

MOST_PARTS = 8


class Summary:
    """A column's numbers of rows, of NULLs and of different values, and bounds that part it evenly, as ranks."""

    def __init__(self, rows, nulls, different, bounds):
        self.rows = rows
        self.nulls = nulls
        self.different = different
        self.bounds = tuple(bounds)

    def shown(self):
        """Return (rows, NULLs, different values, bounds)."""
        return (self.rows, self.nulls, self.different, self.bounds)

    def equal_rows(self):
        """Return the number of rows expected to equal a value: an even share, rounded up."""
        if self.different == 0:
            return 0
        return (self.rows - self.nulls + self.different - 1) // self.different

    def below_rows(self, value):
        """Return the number of rows expected below a value: the share of parts whose bounds are below it."""
        if self.bounds == ():
            return 0
        place = rank(value)
        below = [bound for bound in self.bounds if bound < place]
        return (self.rows - self.nulls) * len(below) // len(self.bounds)

    def range_rows(self, low, high):
        """Return the number of rows expected from a value on and below another one, None for no bound."""
        upper = self.rows - self.nulls if high is None else self.below_rows(high)
        lower = 0 if low is None else self.below_rows(low)
        return max(0, upper - lower)


def summarize(values):
    """Return the summary of a column's values: up to eight bounds, the greatest ranks of parts as even as can be."""
    places = sorted([rank(value) for value in values if value is not None])
    parts = min(MOST_PARTS, len(places))
    bounds = [places[number * len(places) // parts - 1] for number in range(1, parts + 1)]
    return Summary(len(values), len(values) - len(places), len(set(places)), bounds)


def summarize_rows(rows, width):
    """Return the summaries of rows' columns, in order."""
    return tuple([summarize([row[place] for row in rows]) for place in range(width)])


def expected_share(summaries, sides, many):
    """Return the number of rows expected of so many when (place, sign, value) conditions hold together, 0 with NULL."""
    for place, sign, value in sides:
        if value is None:
            return 0
        summary = summaries[place]
        if summary.rows == 0:
            return 0
        many = many * asked_rows(summary, sign, value) // summary.rows
    return many


def asked_rows(summary, sign, value):
    """Return the number of rows expected to compare so with a value, at most those without NULL."""
    known = summary.range_rows(None, None)
    below = summary.below_rows(value)
    equal = summary.equal_rows()
    if sign == "=":
        return equal
    if sign == "<":
        return below
    if sign == "<=":
        return min(known, below + equal)
    if sign == ">":
        return max(0, known - below - equal)
    return known - below
