"""Trees: keys in order with values, in pages: leaves linked to the next one, inner pages of separators and children.

An inner page's link is its first child; a cell's value is the number of the child whose keys are the cell's key or
greater. A tree's root keeps its page number.
"""

from tablestack.codec import fixed, number_from
from tablestack.errors import TreeFault
from tablestack.pages import CELL, INNER, LEAF, LINK_BYTES, Page, cell_room


class Tree:
    """A pager and the page number of a tree's root."""

    def __init__(self, pager, root):
        self.pager = pager
        self.root = root

    def room(self):
        """Return the number of bytes that a cell may need."""
        return cell_room(self.page_room())

    def page_room(self):
        """Return the number of bytes that a page may need."""
        return self.pager.disk.block_size

    def fits(self, key, value):
        """Return True if a key and a value may be held."""
        return len(key) > 0 and CELL + len(key) + len(value) <= self.room()

    def path(self, key):
        """Return the page numbers from the root down to the leaf where a key belongs."""
        return self.path_and_fences(key)[0]

    def path_and_fences(self, key):
        """Return (page numbers down to the leaf where a key belongs, table of leaves to keys above all of theirs).

        The table has that leaf and those beside it, as the pages on the way tell; None stands for no such key.
        """
        numbers = [self.root]
        fences = {self.root: None}
        page = self.pager.page(self.root)
        while page.kind == INNER:
            ends = [one for one, value in page.cells] + [fences[numbers[-1]]]
            fences = {child: ends[place] for place, child in enumerate(children_of(page))}
            number = child_for(page, key)
            if number in numbers:
                raise TreeFault("a tree's page leads back to one above it")
            numbers.append(number)
            page = self.pager.page(number)
        return (numbers, fences)

    def lookup(self, key):
        """Return the value of a key, None if it is not there."""
        for one, value in self.pager.page(self.path(key)[-1]).cells:
            if one == key:
                return value
        return None

    def put(self, key, value):
        """Set the value of a key; raise TreeFault for an empty key, or a cell that is too large."""
        if not self.fits(key, value):
            raise TreeFault("a key is empty, or a cell is too large")
        self.pager.whole(self.put_cell, key, value)

    def put_cell(self, key, value):
        """Set the value of a key; what is done ahead of a fault stays."""
        path = self.path(key)
        page = self.pager.page(path[-1])
        place = place_from(page.cells, key)
        end = place
        if place < len(page.cells) and page.cells[place][0] == key:
            end = place + 1
        self.grow(path, Page(page.kind, page.link, (*page.cells[:place], (key, value), *page.cells[end:])))

    def remove(self, key):
        """Drop a key; return whether it was there."""
        return self.pager.whole(self.remove_cell, key)

    def remove_cell(self, key):
        """Drop a key; return whether it was there; what is done ahead of a fault stays."""
        path = self.path(key)
        page = self.pager.page(path[-1])
        cells = [cell for cell in page.cells if cell[0] != key]
        if len(cells) == len(page.cells):
            return False
        self.shrink(path, Page(page.kind, page.link, cells))
        return True

    def grow(self, path, page):
        """Replace the last page of a path by one that may be too large; the pages above it take in what parts it."""
        if page.size() <= self.page_room():
            self.pager.put(path[-1], page)
            return
        left, right, key = halves(page)
        other = self.pager.fresh(right)
        if left.kind == LEAF:
            left = Page(LEAF, other, left.cells)
        cell = (key, fixed(other, LINK_BYTES))
        if len(path) == 1:
            self.pager.put(self.root, Page(INNER, self.pager.fresh(left), (cell,)))
            return
        self.pager.put(path[-1], left)
        parent = self.pager.page(path[-2])
        place = place_from(parent.cells, key)
        self.grow(path[:-1], Page(INNER, parent.link, (*parent.cells[:place], cell, *parent.cells[place:])))

    def shrink(self, path, page):
        """Replace the last page of a path by one that has lost a cell; a small one is joined with a page beside it."""
        if len(path) == 1:
            self.put_root(page)
        elif page.cells == () or 2 * page.size() < self.page_room():
            self.join_beside(path, page)
        else:
            self.pager.put(path[-1], page)

    def put_root(self, page):
        """Replace the root; one with a single child takes over the child's cells, so that it keeps its number."""
        if page.kind == INNER and page.cells == ():
            child = page.link
            page = self.pager.page(child)
            self.pager.free(child)
        self.pager.put(self.root, page)

    def join_beside(self, path, page):
        """Join a small page at the end of a path with the one beside it under the same page above.

        If both do not fit in one page, an inner page without cells takes over some, and another page stays.
        """
        parent = self.pager.page(path[-2])
        children = children_of(parent)
        place = max(0, children.index(path[-1]) - 1)
        number, other = children[place:place + 2]
        left, right = [page if one == path[-1] else self.pager.page(one) for one in (number, other)]
        whole = joined_pages(left, right, parent.cells[place][0])
        if whole.size() <= self.page_room():
            self.pager.put(number, whole)
            self.pager.free(other)
            self.shrink(path[:-1], Page(INNER, parent.link, (*parent.cells[:place], *parent.cells[place + 1:])))
        elif page.cells == ():
            left, right, key = halves(whole)
            self.pager.put(number, left)
            self.pager.put(other, right)
            cell = (key, parent.cells[place][1])
            self.grow(path[:-1], Page(INNER, parent.link, (*parent.cells[:place], cell, *parent.cells[place + 1:])))
        else:
            self.pager.put(path[-1], page)

    def scan(self, low=(), high=None):
        """Return the (key, value) cells with keys from low on and below high, in order; all above low for None."""
        path, fences = self.path_and_fences(low)
        number = path[-1]
        found = []
        while number != 0:
            page = self.pager.page(number)
            found.extend([cell for cell in page.cells if cell[0] >= low and (high is None or cell[0] < high)])
            if high is not None and ends_at(page, fences.get(number), high):
                return found
            number = page.link
        return found

    def first_cell(self, low, high):
        """Return the first (key, value) cell with a key from low on and below high, None if there is none."""
        path, fences = self.path_and_fences(low)
        number = path[-1]
        while number != 0:
            page = self.pager.page(number)
            place = place_from(page.cells, low)
            if place < len(page.cells):
                return page.cells[place] if page.cells[place][0] < high else None
            if ends_at(page, fences.get(number), high):
                return None
            number = page.link
        return None

    def last_key(self):
        """Return the greatest key, None if there is none."""
        page = self.pager.page(self.root)
        while page.kind == INNER:
            page = self.pager.page(children_of(page)[-1])
        return page.cells[-1][0] if page.cells != () else None

    def page_numbers(self):
        """Return the numbers of all pages of the tree, each after its parent, in order."""
        found = []
        waiting = [self.root]
        while waiting != []:
            number = waiting.pop()
            found.append(number)
            page = self.pager.page(number)
            if page.kind == INNER:
                waiting.extend(children_of(page)[::-1])
        return found

    def clear(self):
        """Drop all keys and free all pages but the root."""
        self.pager.whole(self.clear_pages)

    def clear_pages(self):
        """Drop all keys and free all pages but the root; what is done ahead of a fault stays."""
        for number in self.page_numbers()[1:]:
            self.pager.free(number)
        self.pager.put(self.root, Page(LEAF, 0, ()))

    def check(self):
        """Return the number of keys; raise TreeFault if pages are not in order, uneven, or wrongly linked."""
        depth = len(self.path(()))
        leaves = []
        many = self.checked_keys(self.root, depth, ((), None), leaves)
        for place, number in enumerate(leaves):
            following = leaves[place + 1] if place + 1 < len(leaves) else 0
            if self.pager.page(number).link != following:
                raise TreeFault("leaves are not linked in order")
        return many

    def checked_keys(self, number, depth, bounds, leaves):
        """Return the number of keys of a page and those below it, which lie between bounds; add leaves to a list."""
        page = self.pager.page(number)
        if page.kind != (LEAF if depth == 1 else INNER):
            raise TreeFault("leaves are not at one depth")
        if page.cells == () and number != self.root:
            raise TreeFault("a page is empty")
        check_order(page, bounds)
        if depth == 1:
            leaves.append(number)
            return len(page.cells)
        ends = [bounds[0], *[key for key, value in page.cells], bounds[1]]
        many = 0
        for place, child in enumerate(children_of(page)):
            many += self.checked_keys(child, depth - 1, (ends[place], ends[place + 1]), leaves)
        return many


def check_order(page, bounds):
    """Raise TreeFault if a page's keys do not ascend, from a key on and below another one, None for no bound."""
    low, high = bounds
    keys = [key for key, value in page.cells]
    if any(keys[place] >= keys[place + 1] for place in range(len(keys) - 1)):
        raise TreeFault("a page's keys are not in order")
    if keys != [] and (keys[0] == () or keys[0] < low or (high is not None and keys[-1] >= high)):
        raise TreeFault("a page has keys of another one")


def place_from(cells, key):
    """Return the place of the first cell with a key from one on, the number of cells if there is none."""
    low = 0
    high = len(cells)
    while low < high:
        middle = (low + high) // 2
        if cells[middle][0] < key:
            low = middle + 1
        else:
            high = middle
    return low


def ends_at(page, fence, high):
    """Return True if no leaf behind one has a key below another one, as far as its keys or the key behind it tell."""
    return (page.cells != () and page.cells[-1][0] >= high) or (fence is not None and fence >= high)


def children_of(page):
    """Return the numbers of an inner page's children, in order."""
    return [page.link, *[number_from(value) for key, value in page.cells]]


def child_for(page, key):
    """Return the number of the child of an inner page where a key belongs."""
    number = page.link
    for one, value in page.cells:
        if one > key:
            return number
        number = number_from(value)
    return number


def joined_pages(left, right, key):
    """Return two pages beside each other as one, given the key that parts them."""
    if left.kind == LEAF:
        return Page(LEAF, right.link, (*left.cells, *right.cells))
    return Page(INNER, left.link, (*left.cells, (key, fixed(right.link, LINK_BYTES)), *right.cells))


def middle_place(page, last):
    """Return the place of the cell with which more than half of a page's bytes are reached, from 1 to another one."""
    sizes = [CELL + len(key) + len(value) for key, value in page.cells]
    place = 0
    many = sizes[0]
    while 2 * many <= sum(sizes):
        place += 1
        many += sizes[place]
    return max(1, min(place, last))


def halves(page):
    """Return (left page, right page, the key that parts them) of a page that is too large.

    Of a leaf that is the first key on the right; of an inner page the key goes to the page above.
    """
    cells = page.cells
    if page.kind == LEAF:
        place = middle_place(page, len(cells) - 1)
        return (Page(LEAF, 0, cells[:place]), Page(LEAF, page.link, cells[place:]), cells[place][0])
    place = middle_place(page, len(cells) - 2)
    key, value = cells[place]
    return (Page(INNER, page.link, cells[:place]), Page(INNER, number_from(value), cells[place + 1:]), key)
