"""Point 15 and the pool: a few pages in memory, and pages of an open group that are not written before it ends."""

import unittest

from tablestack.codec import fixed
from tablestack.disk import Disk
from tablestack.errors import DiskFault, PageFault
from tablestack.pages import LEAF, Page, page_bytes
from tablestack.pool import Pool

SIZE = 96


def leaf(number, many=1):
    """Return a leaf that can be told from others."""
    return Page(LEAF, number, [((place + 1,), fixed(number, 2)) for place in range(many)])


def large():
    """Return a page that does not fit in a block."""
    return Page(LEAF, 0, [((place + 1,), (1,) * 12) for place in range(6)])


def filled(capacity, many=6):
    """Return a pool over a disk whose blocks hold pages, none of which is in memory."""
    return Pool(Disk(SIZE, {number: page_bytes(leaf(number), SIZE) for number in range(many)}), capacity)


def shown(pool, number):
    return pool.page(number).shown()


class PoolTest(unittest.TestCase):
    def test_capacities(self):
        for capacity in (0, -1):
            self.assertRaises(PageFault, Pool, Disk(SIZE), capacity)
        pool = Pool(Disk(SIZE), 3)
        self.assertEqual((pool.capacity, pool.pages, pool.changed, pool.reads, pool.writes), (3, {}, {}, 0, 0))

    def test_pages_that_are_used_stay(self):
        pool = filled(2)
        for number, reads in ((0, 1), (1, 2), (0, 2), (2, 3), (0, 3), (1, 4), (1, 4), (2, 5), (2, 5), (0, 6)):
            self.assertEqual(shown(pool, number), leaf(number).shown())
            self.assertEqual(pool.reads, reads, number)
            self.assertLessEqual(len(pool.pages), 2)
        self.assertEqual((pool.writes, pool.disk.steps), (0, 0))

    def test_a_pool_of_one_page(self):
        pool = filled(1)
        for number in (0, 1, 1, 0):
            self.assertEqual(shown(pool, number), leaf(number).shown())
            self.assertEqual(sorted(pool.pages), [number])
        self.assertEqual(pool.reads, 3)
        pool.put(0, leaf(50))
        pool.put(1, leaf(51))
        self.assertEqual((shown(pool, 0), shown(pool, 1), shown(pool, 2)), tuple(leaf(n).shown() for n in (50, 51, 2)))
        self.assertEqual(pool.disk.steps, 0)
        pool.close_group()
        self.assertEqual(len(pool.pages), 1)
        self.assertEqual((shown(pool, 0), shown(pool, 1)), (leaf(50).shown(), leaf(51).shown()))

    def test_invalid_pages(self):
        pool = filled(2)
        pool.disk.blocks[1] = (7,) * SIZE
        self.assertRaises(PageFault, pool.page, 1)
        self.assertRaises(DiskFault, pool.page, 77)
        self.assertEqual((pool.pages, pool.reads), ({}, 0))
        pool.put(1, leaf(9))
        self.assertEqual(shown(pool, 1), leaf(9).shown())

    def test_a_page_that_does_not_fit(self):
        pool = filled(2)
        pool.page(0)
        for number in (0, 1, 9):
            self.assertRaises(PageFault, pool.put, number, large())
        self.assertEqual((sorted(pool.pages), pool.changed, pool.group_images()), ([0], {}, []))
        self.assertEqual(shown(pool, 0), leaf(0).shown())
        pool.put(0, leaf(1))
        self.assertRaises(PageFault, pool.put, 0, large())
        self.assertEqual(shown(pool, 0), leaf(1).shown())
        full = Page(LEAF, 0, [((place + 1,), (1,) * 12) for place in range(5)])
        self.assertEqual(full.size(), SIZE)
        pool.put(0, full)

    def test_group_images(self):
        pool = filled(2)
        self.assertEqual(pool.group_images(), [])
        for number in (4, 0, 2):
            pool.put(number, leaf(number + 60))
        pool.put(4, leaf(99, 2))
        wanted = [(0, page_bytes(leaf(60), SIZE)), (2, page_bytes(leaf(62), SIZE)), (4, page_bytes(leaf(99, 2), SIZE))]
        self.assertEqual(pool.group_images(), wanted)
        pool.close_group()
        self.assertEqual(pool.group_images(), [])

    def test_open_groups_are_not_written(self):
        pool = filled(2)
        pool.put(0, leaf(70))
        for number in (1, 2, 3, 4, 1, 2):
            pool.page(number)
            self.assertEqual((shown(pool, 0), pool.disk.steps, pool.writes), (leaf(70).shown(), 0, 0))
        for number in range(1, 6):
            pool.put(number, leaf(70 + number))
        self.assertEqual((pool.disk.steps, len(pool.pages)), (0, 6))
        self.assertRaises(PageFault, pool.flush)
        self.assertEqual(pool.disk.steps, 0)
        pool.close_group()
        self.assertEqual((len(pool.pages), pool.writes), (2, 4))
        self.assertEqual([shown(pool, number) for number in range(6)],
            [leaf(70 + number).shown() for number in range(6)])

    def test_changed_pages_are_written_when_they_leave(self):
        pool = filled(1)
        pool.put(3, leaf(33))
        pool.close_group()
        self.assertEqual((pool.writes, sorted(pool.changed)), (0, [3]))
        pool.page(0)
        self.assertEqual((pool.writes, pool.changed, pool.disk.waiting), (1, {}, [(3, page_bytes(leaf(33), SIZE))]))
        pool.page(1)
        self.assertEqual((pool.writes, shown(pool, 3)), (1, leaf(33).shown()))

    def test_dropped_groups(self):
        for capacity in (1, 2, 6):
            pool = filled(capacity)
            pool.page(1)
            pool.put(0, leaf(80))
            pool.put(1, leaf(81))
            pool.put(9, leaf(89))
            for number in range(2, 6):
                pool.page(number)
            pool.drop_group()
            self.assertLessEqual(len(pool.pages), capacity)
            self.assertEqual((pool.changed, pool.group_images(), pool.disk.steps), ({}, [], 0))
            self.assertEqual([shown(pool, number) for number in range(6)],
                [leaf(number).shown() for number in range(6)])
            self.assertRaises(DiskFault, pool.page, 9)
            pool.flush()

    def test_no_more_pages_than_there_is_room_for(self):
        pool = filled(2)
        pool.page(0)
        pool.page(1)
        pool.put(2, leaf(1))
        self.assertEqual(sorted(pool.pages), [1, 2])
        pool.put(1, leaf(1))
        pool.page(3)
        self.assertEqual(sorted(pool.pages), [1, 2, 3])
        pool.drop_group()
        self.assertEqual(sorted(pool.pages), [1, 3])
        pool = filled(1)
        pool.page(0)
        pool.put(0, leaf(5))
        pool.page(1)
        pool.drop_group()
        self.assertEqual(len(pool.pages), 1)

    def test_closed_and_then_dropped_groups(self):
        for capacity in (1, 2, 6):
            for read_first in (True, False):
                pool = filled(capacity)
                pool.put(0, leaf(90))
                pool.put(9, leaf(99))
                pool.close_group()
                if read_first:
                    pool.page(0)
                pool.put(0, leaf(91))
                pool.put(9, leaf(92))
                pool.page(4)
                pool.drop_group()
                self.assertEqual((shown(pool, 0), shown(pool, 9)), (leaf(90).shown(), leaf(99).shown()))
                pool.flush()
                self.assertEqual(pool.disk.blocks[0], page_bytes(leaf(90), SIZE))
                self.assertEqual(pool.disk.blocks[9], page_bytes(leaf(99), SIZE))

    def test_parts_that_are_dropped(self):
        for capacity in (1, 2, 6):
            pool = filled(capacity)
            pool.put(0, leaf(60))
            pool.put(9, leaf(69))
            pool.begin_part()
            for number in (0, 1, 9, 8, 1):
                pool.put(number, leaf(70 + number))
                pool.page(4)
            pool.drop_part()
            self.assertEqual([number for number, data in pool.group_images()], [0, 9])
            self.assertLessEqual(len(pool.pages), max(capacity, 2))
            self.assertEqual([shown(pool, number) for number in (0, 1, 9)],
                [leaf(number).shown() for number in (60, 1, 69)])
            self.assertRaises(DiskFault, pool.page, 8)
            self.assertEqual((sorted(pool.changed), pool.disk.steps), ([0, 9], 0))
            pool.drop_group()
            self.assertEqual((shown(pool, 0), pool.changed, pool.group_images()), (leaf(0).shown(), {}, []))

    def test_parts_within_one_another(self):
        for ends in ("kk", "kd", "dk", "dd"):
            pool = filled(2)
            pool.put(0, leaf(60))
            pool.begin_part()
            pool.put(1, leaf(61))
            pool.begin_part()
            for number in (0, 1, 2):
                pool.put(number, leaf(70 + number))
            inside = (70, 71, 72) if ends[0] == "k" else (60, 61, 2)
            (pool.keep_part if ends[0] == "k" else pool.drop_part)()
            self.assertEqual([shown(pool, number) for number in range(3)], [leaf(one).shown() for one in inside])
            (pool.keep_part if ends[1] == "k" else pool.drop_part)()
            wanted = inside if ends[1] == "k" else (60, 1, 2)
            self.assertEqual([shown(pool, number) for number in range(3)], [leaf(one).shown() for one in wanted], ends)
            self.assertEqual([number for number, data in pool.group_images()],
                [number for number in range(3) if wanted[number] > 5])
            pool.drop_group()
            self.assertEqual([shown(pool, number) for number in range(3)], [leaf(n).shown() for n in range(3)])

    def test_parts_end_with_their_group(self):
        for end in (Pool.close_group, Pool.drop_group):
            pool = filled(6)
            for _ in range(2):
                pool.begin_part()
                pool.put(0, leaf(60))
            end(pool)
            before = shown(pool, 0)
            pool.drop_part()
            pool.keep_part()
            self.assertEqual((shown(pool, 0), pool.group_images()), (before, []))

    def test_pages_of_earlier_groups_are_brought_back_changed(self):
        pool = filled(1)
        pool.put(0, leaf(60))
        pool.close_group()
        pool.begin_part()
        pool.put(0, leaf(70))
        pool.page(1)
        pool.drop_part()
        self.assertEqual(shown(pool, 0), leaf(60).shown())
        pool.flush()
        self.assertEqual(pool.disk.blocks[0], page_bytes(leaf(60), SIZE))

    def test_flush(self):
        pool = filled(6)
        for number in (2, 0):
            pool.put(number, leaf(40 + number))
        pool.close_group()
        pool.flush()
        self.assertEqual((pool.writes, pool.changed, pool.disk.waiting, pool.disk.steps), (2, {}, [], 3))
        self.assertEqual(pool.disk.blocks[2], page_bytes(leaf(42), SIZE))
        pool.flush()
        self.assertEqual((pool.writes, shown(pool, 0)), (2, leaf(40).shown()))

    def test_what_was_written_before_is_synced(self):
        pool = filled(1)
        pool.put(3, leaf(33))
        pool.close_group()
        pool.page(0)
        pool.flush()
        self.assertEqual((pool.disk.waiting, pool.disk.blocks[3]), ([], page_bytes(leaf(33), SIZE)))

    def test_crashes(self):
        pool = filled(1)
        pool.put(3, leaf(33))
        pool.close_group()
        pool.disk.arm(0)
        self.assertRaises(DiskFault, pool.page, 0)
        self.assertRaises(DiskFault, pool.flush)
        self.assertEqual(sorted(pool.pages), [3])


if __name__ == "__main__":
    unittest.main()
