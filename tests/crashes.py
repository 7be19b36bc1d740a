"""Crashes of a disk, drawn or all that may be."""

import itertools


def losses(disk, chance, many):
    """Yield (choices, kept): so many drawn ones of what a crash may keep, all lost and all kept among them."""
    tail = len(disk.log_tail)
    yield ((), 0)
    yield ((1,) * len(disk.waiting), tail)
    for _ in range(many):
        choices = [chance.choice((0, 1, 2)) for _ in disk.waiting]
        yield (choices, chance.choice((0, tail, max(0, tail - 1), chance.randint(0, tail))))


def all_losses(disk, most=4):
    """Yield (choices, kept) of each way to lose waiting blocks, the first ones of many, and a few parts of the log."""
    tail = len(disk.log_tail)
    for choices in itertools.product((0, 1, 2), repeat=min(most, len(disk.waiting))):
        for kept in sorted({0, 1, tail // 2, max(0, tail - 1), tail}):
            yield (choices, kept)


def drawn_restart(disk, chance):
    """Return the disk as it is found after a crash, with drawn losses."""
    choices, kept = list(losses(disk, chance, 1))[-1]
    return disk.restarted(choices, kept)
