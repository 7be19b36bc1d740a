"""Inspection: what a database's pages hold, how full they are, and whether its blocks agree with them."""

from tablestack.errors import PageFault
from tablestack.pager import is_same_page
from tablestack.pages import FREE, INNER, LEAF, META, page_from

SORTS = {META: "meta", LEAF: "leaf", INNER: "inner", FREE: "free"}


class TreeReport:
    """A tree's name, its depth, its numbers of leaves, inner pages and keys, and the bytes that they use."""

    def __init__(self, name, depth, leaves, inner, entries, used):
        self.name = name
        self.depth = depth
        self.leaves = leaves
        self.inner = inner
        self.entries = entries
        self.used = used

    def shown(self):
        """Return (name, depth, leaves, inner pages, keys, bytes used)."""
        return (self.name, self.depth, self.leaves, self.inner, self.entries, self.used)


def tree_report(name, tree):
    """Return the report of a tree."""
    pages = [tree.pager.page(number) for number in tree.page_numbers()]
    leaves = [page for page in pages if page.kind == LEAF]
    entries = sum([len(page.cells) for page in leaves])
    used = sum([page.size() for page in pages])
    return TreeReport(name, len(tree.path(())), len(leaves), len(pages) - len(leaves), entries, used)


def reports(engine):
    """Return the reports of all trees: the catalog's, named "", and those of tables and indexes in order of names."""
    return [tree_report(name, tree) for name, tree in engine.store.trees()]


def page_sorts(engine):
    """Return a table of the words "meta", "leaf", "inner" and "free" to how many pages there are of each."""
    found = {SORTS[kind]: 0 for kind in SORTS}
    for number in range(engine.pager.page_count()):
        found[SORTS[engine.pager.page(number).kind]] += 1
    return found


def damaged_blocks(disk):
    """Return the numbers of the blocks that are no valid pages, in ascending order."""
    return tuple([number for number in sorted(disk.blocks) if damaged(disk.blocks[number])])


def stale_blocks(engine):
    """Return the numbers of the pages whose kept block is missing, damaged, or differs from them, ascending."""
    return tuple([number for number in range(engine.pager.page_count()) if is_stale(engine.pager, number)])


def is_stale(pager, number):
    """Return True if a page's kept block is missing, damaged, or differs from it."""
    blocks = pager.disk.blocks
    if number not in blocks or damaged(blocks[number]):
        return True
    return not is_same_page(page_from(blocks[number]), pager.page(number), pager.disk.block_size)


def damaged(data):
    """Return True if bytes are no valid page."""
    try:
        page_from(data)
    except PageFault:
        return True
    return False


def version_count(engine, name):
    """Return the number of versions that a table holds; raise NameFault for an unknown one."""
    engine.store.catalog.table_named(name)
    return len(engine.store.stores[name].versions())
