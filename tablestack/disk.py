"""Disk: blocks and a log that keep what was synced, and a crash that keeps any part of the rest."""

from tablestack.errors import DiskFault

KEPT = 1
HALF = 2


class Disk:
    """Blocks by number and a log; writes wait until they are synced; a fuse counts down to a crash."""

    def __init__(self, block_size, blocks=None, log=()):
        self.block_size = block_size
        self.blocks = {} if blocks is None else {number: tuple(blocks[number]) for number in blocks}
        self.log = tuple(log)
        self.waiting = []
        # The last bytes of each waiting block, so that a read need not go through all that waits.
        self.written = {}
        self.log_tail = ()
        self.fuse = None
        self.dead = False
        self.steps = 0

    def arm(self, steps):
        """Let the disk crash at the step after so many more; None for never."""
        self.fuse = steps

    def step(self):
        """Count a step; raise DiskFault if the disk has crashed, or crashes now."""
        if self.dead:
            raise DiskFault("the disk has crashed")
        if self.fuse is not None and self.fuse == 0:
            self.dead = True
            raise DiskFault("the disk crashes")
        if self.fuse is not None:
            self.fuse -= 1
        self.steps += 1

    def has_block(self, number):
        """Return True if a block was written."""
        return number in self.blocks or number in self.written

    def read_block(self, number):
        """Return the bytes last written to a block; raise DiskFault if there are none."""
        if self.dead:
            raise DiskFault("the disk has crashed")
        if number in self.written:
            return self.written[number]
        if number not in self.blocks:
            raise DiskFault(f"there is no block {number}")
        return self.blocks[number]

    def write_block(self, number, data):
        """Write a block; it waits until blocks are synced; raise DiskFault for bytes of another size."""
        if len(data) != self.block_size:
            raise DiskFault(f"a block has {self.block_size} bytes")
        self.step()
        self.waiting.append((number, tuple(data)))
        self.written[number] = tuple(data)

    def sync_blocks(self):
        """Keep all written blocks."""
        self.step()
        for number, data in self.waiting:
            self.blocks[number] = data
        self.waiting = []
        self.written = {}

    def append_log(self, data):
        """Append bytes to the log; they wait until the log is synced."""
        self.step()
        self.log_tail = (*self.log_tail, *data)

    def sync_log(self):
        """Keep all appended bytes."""
        self.step()
        self.log = self.log + self.log_tail
        self.log_tail = ()

    def clear_log(self):
        """Replace the log by an empty one, at once and wholly."""
        self.step()
        self.log = ()
        self.log_tail = ()

    def read_log(self):
        """Return all bytes of the log."""
        if self.dead:
            raise DiskFault("the disk has crashed")
        return self.log + self.log_tail

    def restarted(self, choices, kept):
        """Return a disk as it may be found after a crash.

        A choice for each waiting block, in order (0 if there are no more choices): 0 loses it, 1 keeps it, 2 keeps its
        first half alone. Of the log's waiting bytes so many are kept.
        """
        blocks = dict(self.blocks)
        for place, (number, data) in enumerate(self.waiting):
            choice = choices[place] if place < len(choices) else 0
            if choice == KEPT:
                blocks[number] = data
            elif choice == HALF:
                half = self.block_size // 2
                before = blocks.get(number, (0,) * self.block_size)
                blocks[number] = data[:half] + before[half:]
        return Disk(self.block_size, blocks, self.log + self.log_tail[:max(0, kept)])
