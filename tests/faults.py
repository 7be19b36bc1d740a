"""Faults of pages at each step of a change, after which all has to be as it was."""

from tablestack.errors import PageFault


def pages_held(pager):
    """Return the numbers of the pages of the open group, and what all pages hold."""
    shown = [pager.page(number).shown() for number in range(pager.page_count())]
    return (sorted(pager.pool.open_group), shown)


def store_state(store):
    """Return all that a store has, in memory and in pages."""
    indexes = [(name, sorted(store.stores[name].indexes)) for name in sorted(store.stores)]
    return (store.catalog.shown(), indexes, pages_held(store.pager))


def carried_until(pool, left, change):
    """Carry out a change in which a page cannot be read or put after so many others; return whether it was done."""
    counts = [left]

    def counted(function):
        def call(*arguments):
            if counts[0] == 0:
                raise PageFault("no page any more")
            counts[0] -= 1
            return function(*arguments)
        return call

    pool.page, pool.put = counted(pool.page), counted(pool.put)
    try:
        change()
        return True
    except PageFault:
        return False
    finally:
        del pool.page, pool.put


def check_each_fault(test, pool, state, change):
    """Check that a change that fails at any of its steps changes nothing; carry it out and return how many it has."""
    steps = 0
    before = state()
    while not carried_until(pool, steps, change):
        test.assertEqual(state(), before, steps)
        test.assertEqual(pool.parts, [])
        steps += 1
    return steps
