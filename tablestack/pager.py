"""Pager: pages that change in groups, all or none of which survive a crash, and a list of free pages.

The meta page leads to the free page that is used next, which leads to the next one; it tells how many pages were ever
used, and the stamp of the last commit, so that each group tells them, too.
"""

from tablestack.codec import fixed, number_from
from tablestack.errors import PageFault, TableError
from tablestack.journal import group_bytes, read_groups
from tablestack.pages import FREE, LEAF, META, Page, page_bytes
from tablestack.pool import Pool

LEAST_BLOCK = 96
META_NUMBER = 0
ROOT_NUMBER = 1
COUNT_KEY = (1,)
COUNT_BYTES = 4
STAMP_KEY = (2,)
STAMP_BYTES = 8


class Pager:
    """A disk, a pool of its pages, and what the log would bring back: how many groups it holds."""

    def __init__(self, disk, capacity=16):
        if disk.block_size < LEAST_BLOCK:
            raise PageFault(f"a block has at least {LEAST_BLOCK} bytes")
        self.disk = disk
        self.capacity = capacity
        self.pool = Pool(disk, capacity)
        self.groups = 0

    def page_count(self):
        """Return the number of pages that were ever used."""
        return self.meta_number(COUNT_KEY)

    def last_stamp(self):
        """Return the stamp of the last commit."""
        return self.meta_number(STAMP_KEY)

    def meta_number(self, wanted):
        """Return a number that the meta page tells; raise PageFault if it tells none."""
        page = self.page(META_NUMBER)
        for key, value in page.cells:
            if page.kind == META and key == wanted:
                return number_from(value)
        raise PageFault("there is no meta page")

    def put_meta(self, link, count, stamp):
        """Replace the meta page."""
        self.put(META_NUMBER, meta_page(link, count, stamp))

    def page(self, number):
        """Return a page."""
        return self.pool.page(number)

    def put(self, number, page):
        """Replace a page within the open group."""
        self.pool.put(number, page)

    def fresh(self, page):
        """Put a page where none is used and return its number: the last one freed, or a new one."""
        number = self.page(META_NUMBER).link
        count = self.page_count()
        if number != 0:
            self.put_meta(self.page(number).link, count, self.last_stamp())
        else:
            number = count
            self.put_meta(0, count + 1, self.last_stamp())
        self.put(number, page)
        return number

    def free(self, number):
        """Give a page back; raise PageFault for the meta page, the first root or a free page."""
        if number in (META_NUMBER, ROOT_NUMBER) or self.page(number).kind == FREE:
            raise PageFault(f"page {number} cannot be freed")
        self.put(number, Page(FREE, self.page(META_NUMBER).link, ()))
        self.put_meta(number, self.page_count(), self.last_stamp())

    def free_pages(self):
        """Return the numbers of the free pages, the one used next first."""
        found = []
        number = self.page(META_NUMBER).link
        while number != 0:
            found.append(number)
            number = self.page(number).link
        return tuple(found)

    def commit(self, stamp):
        """End the open group: append its images to the log and sync it; from then on it survives a crash."""
        self.whole(self.log_group, stamp)
        self.groups += 1
        self.pool.close_group()

    def log_group(self, stamp):
        """Append the images of the open group to the log and sync it."""
        self.put_meta(self.page(META_NUMBER).link, self.page_count(), stamp)
        self.disk.append_log(group_bytes(stamp, self.pool.group_images()))
        self.disk.sync_log()

    def cancel(self):
        """Undo all changes of the open group."""
        self.pool.drop_group()

    def whole(self, change, *arguments):
        """Return what a change of pages returns; if it raises a fault, the pages are as they were before it.

        The change may end the open group.
        """
        self.pool.begin_part()
        try:
            found = change(*arguments)
        except TableError:
            self.pool.drop_part()
            raise
        self.pool.keep_part()
        return found

    def checkpoint(self):
        """Write and sync all changed pages, and clear the log."""
        self.pool.flush()
        self.disk.clear_log()
        self.groups = 0


def meta_page(link, count, stamp):
    """Return the meta page that leads to a free page, of so many pages and the last commit's stamp."""
    cells = [(COUNT_KEY, fixed(count, COUNT_BYTES)), (STAMP_KEY, fixed(stamp, STAMP_BYTES))]
    return Page(META, link, cells)


def format_disk(disk, capacity=16):
    """Return the pager of a disk that was never used: a meta page, and an empty leaf as the first root."""
    pager = Pager(disk, capacity)
    pager.put_meta(0, ROOT_NUMBER + 1, 0)
    pager.put(ROOT_NUMBER, Page(LEAF, 0, ()))
    pager.commit(0)
    return pager


def recover(disk, capacity=16):
    """Return the pager of a disk after a crash: the images of all whole groups of the log are written back in order.

    A disk without a whole group and without a meta page is formatted. What is left of a cut group is cleared in any
    case, since nothing behind it would be read.
    """
    pager = Pager(disk, capacity)
    for _, images in read_groups(disk.read_log()):
        for number, data in images:
            disk.write_block(number, data)
    disk.sync_blocks()
    disk.clear_log()
    if not disk.has_block(META_NUMBER):
        return format_disk(disk, capacity)
    return pager


def is_same_page(one, other, block_size):
    """Return True if two pages have the same bytes."""
    return page_bytes(one, block_size) == page_bytes(other, block_size)
