"""Grouping: expressions of a grouped select, which read its keys and aggregates."""

from tablestack.binder import Binder, aggregate_kind
from tablestack.errors import KindFault, NameFault
from tablestack.plans import bound_parts, fields_in
from tablestack.scope import Scope


def has_call(tree):
    """Return True if an expression calls an aggregate, those of queries within it left out."""
    if tree[0] == "agg":
        return True
    if tree[0] == "col":
        return False
    return any(has_call(part) for part in bound_parts(tree))


def is_grouped(select, orders):
    """Return True if a select with some orders is grouped."""
    _, _, items, _, _, groups, having = select
    trees = [item[0] for item in items if item[0] != "star"] + [tree for tree, descending in orders]
    return groups != () or having is not None or any(has_call(tree) for tree in trees)


class GroupBinder(Binder):
    """Binds expressions of a grouped select to the rows of its groups: the keys, then the aggregates called so far."""

    def __init__(self, inner, groups):
        Binder.__init__(self, inner.translator, inner.scopes)
        self.inner = inner
        self.groups = groups
        self.group_keys = [inner.bound_value(tree) for tree in groups]
        self.calls = []

    def placed(self, tree):
        """Return (bound expression, kind) of a key, an aggregate or an outer column, None for what is put together."""
        if tree[0] == "agg":
            return self.called(tree)
        found = self.bound_whole(tree)
        if found is not None or tree[0] != "col":
            return found
        found, kind = self.inner.bound(tree)
        if found[1] == 0:
            raise NameFault(f"{tree[2]} is neither a key nor within an aggregate")
        return (found, kind)

    def bound_whole(self, tree):
        """Return (bound expression, kind) of an expression that has the form of a key, None if it is none.

        What reads no row of the select is the same for its groups, and need not be bound again.
        """
        if not any(group[0] == tree[0] for group in self.groups):
            return None
        try:
            bound, kind = self.inner.bound(tree)
        except (NameFault, KindFault):
            return None
        found = self.same_key(bound)
        if found is None and fields_in(bound) == ():
            return (bound, kind)
        return found

    def same_key(self, bound):
        """Return (field, kind) of the key with a bound expression, None if there is none."""
        for place, (key, kind) in enumerate(self.group_keys):
            if key == bound:
                return (("field", 0, place), kind)
        return None

    def called(self, tree):
        """Return (field, kind) of an aggregate, which is called once only."""
        _, name, inner, distinct = tree
        bound, kind = (None, "int") if inner is None else self.inner.bound_value(inner)
        call = (name, bound, distinct)
        kind = aggregate_kind(name, kind)
        if call not in self.calls:
            self.calls.append(call)
        return (("field", 0, len(self.group_keys) + self.calls.index(call)), kind)

    def star_field(self, place):
        """Return (bound expression, kind) of a column that a star tells; raise NameFault for one that is no key."""
        found = self.same_key(("field", 0, place))
        if found is None:
            raise NameFault("a star tells a column that is no key")
        return found

    def query_scopes(self):
        """Return the scopes that a query within an expression sees: those outside, from a row without columns."""
        return (Scope(()), *self.scopes[1:])
