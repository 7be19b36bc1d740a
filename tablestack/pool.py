"""Pool: a few pages of the disk in memory; pages of an open group are not written before it ends."""

from tablestack.errors import PageFault
from tablestack.pages import page_bytes, page_from


class Pool:
    """Pages by number, how recently each was used, and which were changed since they were written.

    The pages stand in the order of their last use. Of each page of the open group is kept what it was before: the page
    (None if it was not in memory), and whether it was changed. Parts of the open group that can be undone by themselves
    stand within one another; of each page of a part is kept what it was before (None if it was not in the group).
    """

    def __init__(self, disk, capacity):
        if capacity < 1:
            raise PageFault("a pool holds at least one page")
        self.disk = disk
        self.capacity = capacity
        self.pages = {}
        self.changed = {}
        self.open_group = {}
        self.parts = []
        self.reads = 0
        self.writes = 0

    def page(self, number):
        """Return a page, reading it if it is not in memory; raise PageFault for an invalid one."""
        if number in self.pages:
            page = self.pages.pop(number)
        else:
            page = page_from(self.disk.read_block(number))
            self.make_room(self.capacity - 1)
            self.reads += 1
        self.pages[number] = page
        return page

    def put(self, number, page):
        """Replace a page within the open group; raise PageFault if it does not fit in a block."""
        if page.size() > self.disk.block_size:
            raise PageFault("a page does not fit in a block")
        before = None
        if number not in self.pages:
            self.make_room(self.capacity - 1)
        else:
            before = self.pages.pop(number)
        if self.parts != [] and number not in self.parts[-1]:
            self.parts[-1][number] = before if number in self.open_group else None
        if number not in self.open_group:
            self.open_group[number] = (before, number in self.changed)
        self.pages[number] = page
        self.changed[number] = True

    def group_images(self):
        """Return (number, bytes) of the pages changed in the open group, in ascending order."""
        return [(number, page_bytes(self.pages[number], self.disk.block_size)) for number in sorted(self.open_group)]

    def close_group(self):
        """End the open group: its pages may be written now."""
        self.open_group = {}
        self.parts = []
        self.make_room(self.capacity)

    def drop_group(self):
        """Bring back the pages of the open group as they were before it."""
        for number in sorted(self.open_group):
            self.leave_group(number)
        self.parts = []
        self.make_room(self.capacity)

    def leave_group(self, number):
        """Bring back a page of the open group as it was before the group, which it leaves."""
        before, was_changed = self.open_group.pop(number)
        if before is None:
            del self.pages[number]
        else:
            self.pages[number] = before
        if not was_changed:
            del self.changed[number]

    def begin_part(self):
        """Begin a part of the open group."""
        self.parts.append({})

    def keep_part(self):
        """End the last part, whose pages count as those of the one around it; none is left if the group has ended."""
        if self.parts == []:
            return
        part = self.parts.pop()
        if self.parts != []:
            around = self.parts[-1]
            for number in part:
                around.setdefault(number, part[number])

    def drop_part(self):
        """Bring back the pages of the last part as they were before it, if the group has not ended."""
        if self.parts == []:
            return
        part = self.parts.pop()
        for number in sorted(part):
            if part[number] is None:
                self.leave_group(number)
            else:
                self.pages[number] = part[number]
        self.make_room(self.capacity)

    def flush(self):
        """Write all changed pages and sync them; raise PageFault if a group is open."""
        if self.open_group != {}:
            raise PageFault("a group is open")
        for number in sorted(self.changed):
            self.write_page(number)
        self.disk.sync_blocks()

    def write_page(self, number):
        """Write a changed page."""
        self.disk.write_block(number, page_bytes(self.pages[number], self.disk.block_size))
        self.writes += 1
        del self.changed[number]

    def make_room(self, many):
        """Drop the pages that were not used for longest until so many are left; those of the open group stay."""
        while len(self.pages) > max(many, len(self.open_group)):
            number = self.least_used()
            if number in self.changed:
                self.write_page(number)
            del self.pages[number]

    def least_used(self):
        """Return the number of the page that was not used for longest, those of the open group left out."""
        for number in self.pages:
            if number not in self.open_group:
                return number
        return None
