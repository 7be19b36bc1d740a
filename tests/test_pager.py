"""Points 13 to 15 and the pager: groups that survive crashes whole or not at all, the log, and free pages."""

import random
import unittest

from tablestack.codec import fixed
from tablestack.disk import Disk
from tablestack.errors import DiskFault, PageFault
from tablestack.journal import group_bytes, read_groups
from tablestack.pager import Pager, format_disk, is_same_page, recover
from tablestack.pages import FREE, INNER, LEAF, META, Page, page_bytes, page_from
from tests.crashes import all_losses, drawn_restart, losses

SIZE = 96


def leaf(number):
    return Page(LEAF, 0, [((1,), fixed(number, 3))])


def contents(pager):
    """Return what all pages hold, and the stamp."""
    return (pager.last_stamp(), pager.free_pages(), [pager.page(number).shown()
        for number in range(pager.page_count())])


def page_zero(**choices):
    """Return a disk that has a page, but no meta page."""
    return Disk(SIZE, {5: page_bytes(leaf(1), SIZE)}, **choices)


class PagerTest(unittest.TestCase):
    def test_small_blocks(self):
        for make in (Pager, format_disk, recover):
            disk = Disk(95)
            self.assertRaises(PageFault, make, disk)
            self.assertEqual((disk.steps, disk.blocks, disk.log), (0, {}, ()))
            self.assertRaises(PageFault, make, Disk(96), 0)
        pager = format_disk(Disk(96))
        self.assertEqual((pager.page_count(), pager.capacity, pager.pool.capacity), (2, 16, 16))

    def test_new_disks(self):
        disk = Disk(SIZE)
        pager = format_disk(disk, 3)
        self.assertEqual((pager.page_count(), pager.last_stamp(), pager.free_pages(), pager.capacity), (2, 0, (), 3))
        self.assertEqual((pager.page(0).kind, pager.page(1).shown()), (META, (LEAF, 0, ())))
        self.assertEqual((pager.disk, pager.pool.pages.keys(), pager.groups),
            (disk, {0, 1}, len(read_groups(disk.log))))
        self.assertEqual(contents(recover(disk.restarted((), 0))), contents(pager))

    def test_fresh_and_freed_pages(self):
        pager = format_disk(Disk(SIZE))
        self.assertEqual([pager.fresh(leaf(number)) for number in range(4)], [2, 3, 4, 5])
        self.assertEqual((pager.page_count(), pager.page(4).shown()), (6, leaf(2).shown()))
        for number in (3, 5, 2):
            pager.free(number)
        self.assertEqual((pager.free_pages(), pager.page_count(), pager.page(5).kind), ((2, 5, 3), 6, FREE))
        self.assertEqual([pager.fresh(leaf(9)) for _ in range(2)], [2, 5])
        pager.free(2)
        self.assertEqual(pager.free_pages(), (2, 3))
        self.assertEqual([pager.fresh(leaf(9)) for _ in range(4)], [2, 3, 6, 7])
        self.assertEqual((pager.free_pages(), pager.page_count()), ((), 8))

    def test_pages_that_are_not_freed(self):
        pager = format_disk(Disk(SIZE))
        number = pager.fresh(leaf(1))
        pager.free(number)
        before = contents(pager)
        for one in (0, 1, number):
            self.assertRaises(PageFault, pager.free, one)
        self.assertRaises(DiskFault, pager.free, 99)
        self.assertEqual(contents(pager), before)

    def test_a_fresh_page_that_is_too_large(self):
        pager = format_disk(Disk(SIZE))
        before = contents(pager)
        page = Page(LEAF, 0, [((1,), (1,) * SIZE)])
        self.assertRaises(PageFault, pager.fresh, page)
        self.assertRaises(PageFault, pager.put, 1, page)
        pager.cancel()
        self.assertEqual(contents(pager), before)
        self.assertEqual(pager.fresh(leaf(1)), 2)

    def test_commits(self):
        disk = Disk(SIZE)
        pager = format_disk(disk)
        many, log = pager.groups, disk.log
        number = pager.fresh(leaf(7))
        self.assertEqual((pager.last_stamp(), disk.log), (0, log))
        steps = disk.steps
        pager.commit(5)
        self.assertEqual((pager.last_stamp(), pager.groups, disk.steps), (5, many + 1, steps + 2))
        stamp, images = read_groups(disk.log)[-1]
        self.assertEqual((stamp, dict(images)[number]), (5, page_bytes(leaf(7), SIZE)))
        self.assertEqual(disk.log, log + group_bytes(stamp, images))
        self.assertEqual((disk.blocks, disk.waiting), ({}, []))

    def test_cancelled_groups(self):
        pager = format_disk(Disk(SIZE), 1)
        number = pager.fresh(leaf(1))
        other = pager.fresh(leaf(2))
        pager.free(other)
        pager.commit(1)
        before = contents(pager)
        for change in (
            lambda: pager.fresh(leaf(3)), lambda: pager.free(number), lambda: pager.put(number, leaf(5)),
            lambda: [pager.fresh(leaf(3)), pager.fresh(leaf(4)), pager.free(other), pager.free(number)],
        ):
            change()
            pager.cancel()
            self.assertEqual(contents(pager), before)
        pager.cancel()
        self.assertEqual(pager.fresh(leaf(3)), other)
        pager.free(number)
        pager.commit(2)
        self.assertEqual(contents(recover(pager.disk.restarted((), 0)))[:2], (2, (number,)))

    def test_a_change_is_whole(self):
        for capacity in (1, 2, 16):
            pager = format_disk(Disk(SIZE), capacity)
            pager.fresh(leaf(5))
            pager.commit(1)
            kept = pager.fresh(leaf(6))

            def change(*numbers):
                """Change pages and free one, unless it cannot be freed."""
                pager.put(kept, leaf(7))
                pager.fresh(leaf(8))
                for number in numbers:
                    pager.free(number)
                return "done"

            before = contents(pager)
            self.assertRaises(PageFault, pager.whole, change, 2, 0)
            self.assertEqual((contents(pager), pager.whole(change, 2)), (before, "done"))
            self.assertEqual((pager.free_pages(), pager.page(kept).shown()), ((2,), leaf(7).shown()))
            pager.cancel()
            self.assertEqual((pager.page_count(), pager.page(2).shown()), (3, leaf(5).shown()))

    def test_a_change_may_end_its_group(self):
        pager = format_disk(Disk(SIZE))
        pager.whole(lambda: [pager.put(1, leaf(4)), pager.commit(3), pager.put(1, leaf(5))])
        pager.cancel()
        self.assertEqual((pager.last_stamp(), pager.page(1).shown()), (3, leaf(4).shown()))

    def test_commits_that_crash(self):
        for fuse in (0, 1):
            pager = format_disk(Disk(SIZE))
            pager.put(1, leaf(4))
            before = (contents(pager), pager.groups)
            pager.disk.arm(fuse)
            self.assertRaises(DiskFault, pager.commit, 3)
            self.assertEqual((contents(pager), pager.groups), before)

    def test_checkpoints(self):
        disk = Disk(SIZE)
        pager = format_disk(disk)
        pager.fresh(leaf(1))
        self.assertRaises(PageFault, pager.checkpoint)
        pager.commit(1)
        pager.checkpoint()
        self.assertEqual((pager.groups, disk.log, disk.waiting, sorted(disk.blocks)), (0, (), [], [0, 1, 2]))
        self.assertEqual(page_from(disk.blocks[2]).shown(), leaf(1).shown())
        pager.checkpoint()
        pager.put(2, leaf(9))
        pager.commit(2)
        self.assertEqual((pager.groups, page_from(disk.blocks[2]).shown()), (1, leaf(1).shown()))

    def test_opening(self):
        disk = Disk(SIZE)
        pager = format_disk(disk)
        for number in range(3):
            pager.fresh(leaf(number))
            pager.commit(number + 1)
        before = contents(pager)
        pager.put(2, leaf(50))
        found = recover(disk.restarted((), 0), 2)
        self.assertEqual((contents(found), found.capacity, found.groups, found.disk.log), (before, 2, 0, ()))
        self.assertEqual((found.disk.waiting, sorted(found.disk.blocks)), ([], [0, 1, 2, 3, 4]))
        again = recover(found.disk)
        self.assertEqual((contents(again), again.groups), (before, 0))

    def test_disks_without_a_meta_page(self):
        for disk in (Disk(SIZE), page_zero(), page_zero(log=(1, 2, 3)), page_zero(log=group_bytes(3, [])[:-1])):
            pager = recover(disk)
            self.assertEqual((contents(pager)[:2], pager.page(1).shown()), ((0, ()), (LEAF, 0, ())))
            pager.fresh(leaf(4))
            pager.commit(1)
            self.assertEqual(contents(recover(disk.restarted((), 0))), contents(pager))

    def test_damaged_meta_pages(self):
        pager = format_disk(Disk(SIZE))
        pager.checkpoint()
        for data in ((0,) * SIZE, (9,) * SIZE, page_bytes(leaf(1), SIZE)):
            with self.assertRaises(PageFault):
                recover(Disk(SIZE, {**pager.disk.blocks, 0: data})).page_count()

    def test_what_is_left_of_a_log_is_cleared(self):
        disk = Disk(SIZE)
        pager = format_disk(disk)
        pager.checkpoint()
        for left in ((0,), group_bytes(9, [(1, page_bytes(leaf(8), SIZE))])[:-3]):
            found = recover(Disk(SIZE, disk.blocks, left))
            self.assertEqual((contents(found), found.disk.log), (contents(pager), ()))
            found.put(1, leaf(6))
            found.commit(3)
            self.assertEqual(contents(recover(found.disk.restarted((), 0))), contents(found))

    def test_groups_are_written_back_in_order(self):
        disk = Disk(SIZE)
        pager = format_disk(disk)
        pager.checkpoint()
        images = [(1, page_bytes(leaf(one), SIZE)) for one in (1, 2, 3)]
        log = group_bytes(1, images[:1]) + group_bytes(2, images[1:2]) + group_bytes(3, images[2:])
        self.assertEqual(recover(Disk(SIZE, disk.blocks, log)).page(1).shown(), leaf(3).shown())
        self.assertEqual(recover(Disk(SIZE, disk.blocks, log[:-1])).page(1).shown(), leaf(2).shown())

    def test_same_pages(self):
        self.assertTrue(is_same_page(leaf(1), leaf(1), SIZE))
        for other in (leaf(2), Page(LEAF, 1, leaf(1).cells), Page(INNER, 0, leaf(1).cells), Page(LEAF, 0, ())):
            self.assertFalse(is_same_page(leaf(1), other, SIZE))
        self.assertRaises(PageFault, is_same_page, leaf(1), Page(LEAF, 0, [((1,), (1,) * SIZE)]), SIZE)


def changed(pager, stamp):
    """Carry out a group that takes new pages, frees some and replaces others."""
    for number in range(2, pager.page_count()):
        if pager.page(number).kind != FREE and (number + stamp) % 3 == 0:
            pager.free(number)
    for one in range(stamp % 4):
        pager.put(pager.fresh(leaf(one)), leaf(100 * stamp + one))
    pager.put(1, leaf(stamp))
    pager.commit(stamp)


STEPS = (
    lambda pager: changed(pager, 1), lambda pager: changed(pager, 2), lambda pager: pager.checkpoint(),
    lambda pager: changed(pager, 3), lambda pager: changed(pager, 4), lambda pager: changed(pager, 5),
    lambda pager: pager.checkpoint(), lambda pager: changed(pager, 6), lambda pager: pager.checkpoint(),
)


class CrashTest(unittest.TestCase):
    @classmethod
    def setUpClass(cls):
        """Keep what the pages hold after so many steps; before the first one nothing may be there."""
        pager = format_disk(Disk(SIZE))
        cls.wanted = [contents(pager)]
        for step in STEPS:
            step(pager)
            cls.wanted.append(contents(pager))

    def crashed(self, fuse, capacity):
        """Return (disk that has crashed, how many steps were done ahead), None for a disk that did not crash."""
        disk = Disk(SIZE)
        disk.arm(fuse)
        many = 0
        try:
            pager = format_disk(disk, capacity)
            for step in STEPS:
                step(pager)
                many += 1
        except DiskFault:
            return (disk, many)
        return None

    def check(self, disk, many):
        found = contents(recover(disk, 2))
        self.assertIn(found, self.wanted[many:many + 2])
        return found

    def test_a_crash_at_each_step(self):
        for capacity in (1, 2, 16):
            fuse = 0
            kinds = {True: 0, False: 0}
            while (found := self.crashed(fuse, capacity)) is not None:
                for choices, kept in all_losses(found[0]):
                    state = self.check(found[0].restarted(choices, kept), found[1])
                    kinds[state == self.wanted[found[1]]] += 1
                fuse += 1
            self.assertGreater(fuse, 20)
            self.assertGreater(min(kinds.values()), 0)

    def test_a_second_crash_while_the_first_one_is_recovered_from(self):
        chance = random.Random(5)
        fuse = 0
        while (found := self.crashed(fuse, 2)) is not None:
            for choices, kept in losses(found[0], chance, 1):
                first = found[0].restarted(choices, kept)
                wanted = self.check(Disk(SIZE, first.blocks, first.log), found[1])
                steps = 0
                crashes = True
                while crashes:
                    disk = Disk(SIZE, first.blocks, first.log)
                    disk.arm(steps)
                    try:
                        recover(disk)
                        crashes = False
                    except DiskFault:
                        for _ in range(3):
                            self.assertEqual(contents(recover(drawn_restart(disk, chance))), wanted)
                    steps += 1
            fuse += 1


if __name__ == "__main__":
    unittest.main()
