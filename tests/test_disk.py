"""Point 14: blocks and a log, what is kept once it is synced, what a crash leaves, the fuse."""

import unittest

from tablestack.disk import Disk
from tablestack.errors import DiskFault

A, B, C, ZERO = (1,) * 5, (2,) * 5, (3,) * 5, (0,) * 5


def filled():
    """Return a disk with a kept block and log, and with more of both that waits."""
    disk = Disk(5)
    disk.write_block(0, A)
    disk.append_log((1, 2))
    disk.sync_blocks()
    disk.sync_log()
    disk.write_block(0, B)
    disk.write_block(7, C)
    disk.append_log((3, 4))
    disk.append_log((5,))
    return disk


class DiskTest(unittest.TestCase):
    def test_new_disks(self):
        disk = Disk(5)
        self.assertEqual((disk.block_size, disk.blocks, disk.log, disk.waiting, disk.fuse, disk.dead, disk.steps),
            (5, {}, (), [], None, False, 0))
        blocks = {3: list(A)}
        disk = Disk(5, blocks, [1, 2])
        blocks[4] = B
        self.assertEqual((disk.blocks, disk.log, disk.read_block(3), disk.read_log()), ({3: A}, (1, 2), A, (1, 2)))
        disk.write_block(3, B)
        disk.sync_blocks()
        self.assertEqual(blocks, {3: list(A), 4: B})

    def test_blocks(self):
        disk = Disk(5)
        self.assertFalse(disk.has_block(0))
        self.assertRaises(DiskFault, disk.read_block, 0)
        disk.write_block(0, list(A))
        self.assertTrue(disk.has_block(0))
        self.assertEqual((disk.read_block(0), disk.blocks, disk.waiting), (A, {}, [(0, A)]))
        disk.sync_blocks()
        self.assertEqual((disk.read_block(0), disk.blocks, disk.waiting), (A, {0: A}, []))
        disk.write_block(0, B)
        disk.write_block(2, A)
        disk.write_block(0, C)
        self.assertEqual((disk.read_block(0), disk.read_block(2), disk.blocks, len(disk.waiting)), (C, A, {0: A}, 3))
        self.assertRaises(DiskFault, disk.read_block, 1)
        disk.sync_blocks()
        self.assertEqual((disk.blocks, disk.waiting), ({0: C, 2: A}, []))

    def test_blocks_of_another_size(self):
        disk = Disk(5)
        for data in ((), (1,) * 4, (1,) * 6):
            with self.assertRaises(DiskFault):
                disk.write_block(0, data)
        self.assertEqual((disk.steps, disk.waiting, disk.has_block(0), disk.dead), (0, [], False, False))

    def test_logs(self):
        disk = Disk(5)
        self.assertEqual(disk.read_log(), ())
        disk.append_log((1, 2))
        disk.append_log([3])
        self.assertEqual((disk.read_log(), disk.log), ((1, 2, 3), ()))
        disk.sync_log()
        disk.append_log((4,))
        self.assertEqual((disk.read_log(), disk.log), ((1, 2, 3, 4), (1, 2, 3)))
        disk.sync_blocks()
        self.assertEqual(disk.log, (1, 2, 3))
        disk.clear_log()
        self.assertEqual((disk.read_log(), disk.log), ((), ()))
        disk.sync_log()
        self.assertEqual((disk.log, disk.restarted((), 99).log), ((), ()))

    def test_steps_and_fuses(self):
        steps = (
            lambda disk: disk.write_block(0, A), lambda disk: disk.append_log((1,)), lambda disk: disk.sync_log(),
            lambda disk: disk.sync_blocks(),
            lambda disk: disk.append_log((2,)), lambda disk: disk.clear_log(), lambda disk: disk.write_block(0, B),
        )
        for many in range(len(steps) + 2):
            disk = Disk(5)
            disk.arm(many)
            self.assertEqual((disk.fuse, disk.steps), (many, 0))
            for number, step in enumerate(steps):
                if number < many:
                    step(disk)
                    self.assertEqual((disk.fuse, disk.steps, disk.dead), (many - number - 1, number + 1, False))
                else:
                    before = (disk.blocks, disk.log, list(disk.waiting), disk.log_tail)
                    self.assertRaises(DiskFault, step, disk)
                    self.assertEqual((disk.dead, disk.steps, disk.fuse), (True, many, 0))
                    self.assertEqual((disk.blocks, disk.log, disk.waiting, disk.log_tail), before)

    def test_reading_is_no_step(self):
        disk = Disk(5, {0: A}, (1,))
        disk.arm(0)
        self.assertEqual((disk.read_block(0), disk.read_log(), disk.has_block(0), disk.dead, disk.steps),
            (A, (1,), True, False, 0))
        self.assertRaises(DiskFault, disk.step)
        for call in (lambda: disk.read_block(0), lambda: disk.read_block(9), disk.read_log, disk.sync_blocks,
            disk.clear_log):
            self.assertRaises(DiskFault, call)
        disk.arm(None)
        self.assertRaises(DiskFault, disk.sync_log)

    def test_fuses_that_are_set_again(self):
        disk = Disk(5)
        disk.arm(1)
        disk.step()
        disk.arm(None)
        for _ in range(5):
            disk.step()
        self.assertEqual((disk.steps, disk.fuse, disk.dead), (6, None, False))
        disk.arm(2)
        disk.step()
        disk.step()
        self.assertRaises(DiskFault, disk.step)


class CrashTest(unittest.TestCase):
    def test_what_is_kept_of_blocks(self):
        half_b, half_c = (2, 2, 1, 1, 1), (3, 3, 0, 0, 0)
        for choices, blocks in (
            ((), {0: A}), ((0, 0), {0: A}), ((1,), {0: B}), ((1, 1), {0: B, 7: C}), ((0, 1), {0: A, 7: C}),
            ((2,), {0: half_b}), ((0, 2), {0: A, 7: half_c}),
            ((2, 2), {0: half_b, 7: half_c}), ((1, 2, 1, 1), {0: B, 7: half_c}), ([0, 1], {0: A, 7: C}),
        ):
            disk = filled()
            found = disk.restarted(choices, 0)
            self.assertEqual(found.blocks, blocks, choices)
            self.assertEqual((found.block_size, found.waiting, found.fuse, found.dead, found.steps),
                (5, [], None, False, 0))
            self.assertEqual((disk.blocks, len(disk.waiting)), ({0: A}, 2))

    def test_what_is_kept_of_the_log(self):
        for kept, log in ((0, (1, 2)), (1, (1, 2, 3)), (2, (1, 2, 3, 4)), (3, (1, 2, 3, 4, 5)), (99, (1, 2, 3, 4, 5)),
            (-1, (1, 2))):
            self.assertEqual(filled().restarted((), kept).log, log)

    def test_a_block_written_twice(self):
        for choices, found in (
            ((0, 0), A), ((1, 0), B), ((0, 1), C), ((1, 1), C), ((2, 0), (2, 2, 1, 1, 1)), ((0, 2), (3, 3, 1, 1, 1)),
            ((1, 2), (3, 3, 2, 2, 2)), ((2, 1), C), ((2, 2), (3, 3, 1, 1, 1)),
        ):
            disk = Disk(5, {0: A})
            disk.write_block(0, B)
            disk.write_block(0, C)
            self.assertEqual(disk.restarted(choices, 0).read_block(0), found, choices)
        disk = Disk(5)
        disk.write_block(1, B)
        disk.write_block(1, C)
        self.assertEqual(disk.restarted((2, 2), 0).read_block(1), (3, 3, 0, 0, 0))
        self.assertFalse(disk.restarted((), 0).has_block(1))

    def test_halves(self):
        for size in (1, 2, 3, 4, 5, 96, 97):
            disk = Disk(size, {0: (1,) * size})
            disk.write_block(0, (2,) * size)
            self.assertEqual(disk.restarted((2,), 0).read_block(0), (2,) * (size // 2) + (1,) * (size - size // 2))

    def test_after_a_crash(self):
        disk = filled()
        disk.arm(0)
        self.assertRaises(DiskFault, disk.sync_blocks)
        found = disk.restarted((1, 2), 1)
        self.assertEqual((found.read_block(0), found.read_block(7), found.read_log()), (B, (3, 3, 0, 0, 0), (1, 2, 3)))
        found.write_block(7, A)
        found.sync_blocks()
        self.assertEqual(found.blocks[7], A)
        self.assertFalse(filled().restarted((1, 1), 9).dead)

    def test_what_was_synced_or_cleared_stays_so(self):
        disk = filled()
        disk.sync_blocks()
        disk.sync_log()
        self.assertEqual((disk.restarted((), 0).blocks, disk.restarted((), 0).log), ({0: B, 7: C}, (1, 2, 3, 4, 5)))
        disk.clear_log()
        self.assertEqual(disk.restarted((), 0).log, ())


if __name__ == "__main__":
    unittest.main()
