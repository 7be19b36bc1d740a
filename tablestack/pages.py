"""Pages: a tree's node, the meta page or a free page as the bytes of one block."""

from tablestack.codec import checksum, fixed, number_from
from tablestack.errors import PageFault

META = 1
LEAF = 2
INNER = 3
FREE = 4
# A page begins with its class, its link and the number of its cells, and ends with its checksum.
LINK_BYTES = 4
COUNT_BYTES = 2
HEAD = 7
TAIL = 4
# A cell begins with the lengths of its key and its value.
LENGTH_BYTES = 2
CELL = 4
CELLS_IN_PAGE = 4


class Page:
    """A page: its class of page, a page number that it leads to (0 for none), and its (key, value) cells in order."""

    def __init__(self, kind, link, cells):
        self.kind = kind
        self.link = link
        self.cells = tuple([(tuple(key), tuple(value)) for key, value in cells])

    def shown(self):
        """Return (class, link, cells)."""
        return (self.kind, self.link, self.cells)

    def size(self):
        """Return the number of bytes that the page needs."""
        return HEAD + TAIL + sum([CELL + len(key) + len(value) for key, value in self.cells])


def cell_room(block_size):
    """Return the number of bytes that a cell may need, so that four fit in a page of a block."""
    return (block_size - HEAD - TAIL) // CELLS_IN_PAGE


def page_bytes(page, block_size):
    """Return the bytes of a page; raise PageFault if it does not fit in a block."""
    if page.size() > block_size:
        raise PageFault("a page does not fit in a block")
    data = [page.kind, *fixed(page.link, LINK_BYTES), *fixed(len(page.cells), COUNT_BYTES)]
    for key, value in page.cells:
        data.extend(fixed(len(key), LENGTH_BYTES))
        data.extend(fixed(len(value), LENGTH_BYTES))
        data.extend(key)
        data.extend(value)
    data.extend([0] * (block_size - page.size()))
    return (*data, *checksum(data))


def page_from(data):
    """Return the page of a block's bytes; raise PageFault for bytes that are none."""
    if len(data) < HEAD + TAIL or checksum(data[:-TAIL]) != tuple(data[-TAIL:]):
        raise PageFault("a page is damaged")
    sort = data[0]
    link = number_from(data[1:1 + LINK_BYTES])
    many = number_from(data[1 + LINK_BYTES:HEAD])
    end = len(data) - TAIL
    place = HEAD
    cells = []
    while len(cells) < many:
        cell, place = cell_from(data, place, end)
        cells.append(cell)
    if sort not in (META, LEAF, INNER, FREE) or any(one != 0 for one in data[place:end]):
        raise PageFault("a page is invalid")
    return Page(sort, link, cells)


def cell_from(data, place, end):
    """Return (cell, place after it) of a page's bytes; raise PageFault if the page's cells end within it."""
    if place + CELL > end:
        raise PageFault("a page ends within a cell")
    first = number_from(data[place:place + LENGTH_BYTES])
    second = number_from(data[place + LENGTH_BYTES:place + CELL])
    place += CELL
    if place + first + second > end:
        raise PageFault("a page ends within a cell")
    key = data[place:place + first]
    return ((key, data[place + first:place + first + second]), place + first + second)
