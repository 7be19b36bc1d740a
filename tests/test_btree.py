"""Points 13 and 16: trees of keys in pages, their order, their depth and their links, and what is read of them."""

import random
import unittest

from tablestack.btree import Tree, child_for, children_of, halves
from tablestack.codec import fixed
from tablestack.disk import Disk
from tablestack.errors import DiskFault, PageFault, TreeFault
from tablestack.pager import format_disk, recover
from tablestack.pages import INNER, LEAF, Page, cell_room
from tests.faults import check_each_fault, pages_held

SIZES = (96, 97, 120, 200, 400)


def empty_tree(size=96, capacity=16):
    """Return a tree that is no catalog's, over a new disk."""
    pager = format_disk(Disk(size), capacity)
    return Tree(pager, pager.fresh(Page(LEAF, 0, ())))


def filled_tree(keys, size=96, capacity=16):
    tree = empty_tree(size, capacity)
    for key in keys:
        tree.put(key, key[:1])
    return tree


def inner(link, *cells):
    return Page(INNER, link, [(key, fixed(number, 4)) for key, number in cells])


def pairs(keys):
    return [(key, key[:1]) for key in sorted(keys)]


class Recorder:
    """A pager that tells which pages were read."""

    def __init__(self, pager):
        self.disk = pager.disk
        self.pager = pager
        self.numbers = []

    def page(self, number):
        self.numbers.append(number)
        return self.pager.page(number)


class TreeTest(unittest.TestCase):
    def check(self, tree, held):
        """Check all that is promised of a tree that holds some cells."""
        pager = tree.pager
        self.assertEqual(tree.check(), len(held))
        self.assertEqual(tree.scan(), sorted(held.items()))
        numbers = tree.page_numbers()
        self.assertEqual(sorted([0, 1, *numbers, *pager.free_pages()]), list(range(pager.page_count())))
        self.assertEqual(numbers[0], tree.root)
        pages = {number: pager.page(number) for number in numbers}
        leaves = [number for number in numbers if pages[number].kind == LEAF]
        self.assertEqual([pages[number].link for number in leaves], [*leaves[1:], 0])
        for number in numbers:
            self.assertTrue(pages[number].cells != () or number == tree.root)
            self.assertLessEqual(pages[number].size(), pager.disk.block_size)
            if pages[number].kind == INNER:
                self.assertTrue(all(numbers.index(child) > numbers.index(number)
                    for child in children_of(pages[number])))
        self.assertEqual(len({len(tree.path(key)) for key in [(), *held]}), 1)
        for key in held:
            self.assertIn(key, [one for one, value in pager.page(tree.path(key)[-1]).cells])

    def test_rooms(self):
        for size, room in ((96, 21), (99, 22), (200, 47), (400, 97)):
            tree = empty_tree(size)
            self.assertEqual((tree.room(), cell_room(size)), (room, room))
            for key, value, fine in (
                ((), (), False), ((), (1,), False), ((0,), (), True), ((1,) * (room - 4), (), True),
                ((1,) * (room - 3), (), False),
                ((1,), (0,) * (room - 5), True), ((1,), (0,) * (room - 4), False), ((1,) * 5, (2,) * (room - 9), True),
            ):
                self.assertEqual(tree.fits(key, value), fine, (size, key, value))
                if fine:
                    tree.put(key, value)
                    self.assertEqual(tree.lookup(key), value)
                else:
                    before = tree.scan()
                    self.assertRaises(TreeFault, tree.put, key, value)
                    self.assertEqual(tree.scan(), before)
            self.check(tree, dict(tree.scan()))

    def test_small_trees(self):
        tree = empty_tree()
        self.assertEqual((tree.scan(), tree.lookup((1,)), tree.remove((1,)), tree.check()), ([], None, False, 0))
        self.assertEqual((tree.path((9,)), tree.page_numbers()), ([2], [2]))
        tree.put((5,), (1, 2))
        tree.put((5,), (3,))
        tree.put((0,), ())
        self.assertEqual((tree.scan(), tree.lookup((5,)), tree.lookup((0,))), ([((0,), ()), ((5,), (3,))], (3,), ()))
        self.assertIsNone(tree.lookup((0, 0)))
        self.assertIsInstance(tree.remove((5,)), bool)
        self.assertEqual((tree.remove((5,)), tree.scan(), tree.check()), (False, [((0,), ())], 1))

    def test_keys_in_any_order_put_and_dropped_and_put_again(self):
        keys = {
            "one byte": [(number,) for number in range(256)],
            "two": [(number // 9, number % 9) for number in range(150)],
            "long": [(*fixed(number * 7919 % 251, 9), *fixed(number, 8)) for number in range(120)],
            "equal beginnings": [(7,) * many + end for many in range(14) for end in ((), (1,),
                (9, 9)) if many + len(end)],
        }
        chance = random.Random(2)
        orders = (sorted, lambda some: sorted(some, reverse=True), lambda some: chance.sample(some, len(some)))
        for word, some in keys.items():
            for put_order in orders:
                for drop_order in orders:
                    tree = empty_tree()
                    held = {}
                    for key in put_order(some):
                        held[key] = key[:2] if tree.fits(key, key[:2]) else ()
                        tree.put(key, held[key])
                    self.check(tree, held)
                    for many, key in enumerate(drop_order(some)):
                        self.assertTrue(tree.remove(key))
                        del held[key]
                        if many % 40 == 0:
                            self.check(tree, held)
                    self.check(tree, {})
                    self.assertEqual((tree.page_numbers(), len(tree.pager.free_pages())),
                        ([tree.root], tree.pager.page_count() - 3))
                    tree.put(some[0], ())
                    self.check(tree, {some[0]: ()})

    def test_drawn_changes(self):
        deepest = 0
        for seed in range(40):
            chance = random.Random(seed)
            tree = empty_tree(chance.choice(SIZES), chance.choice((1, 2, 6)))
            room = tree.room()
            held = {}
            longest = chance.choice((1, 2, room - 4))
            for step in range(250):
                key = tuple(chance.randrange(4 if longest > 2 else 60) for _ in range(chance.randint(1, longest)))
                if chance.random() < (0.75 if step % 120 < 70 else 0.25):
                    value = (step % 256,) * chance.randint(0, room - 4 - len(key))
                    tree.put(key, value)
                    held[key] = value
                else:
                    key = chance.choice(sorted(held)) if held and chance.random() < 0.9 else key
                    self.assertEqual(tree.remove(key), held.pop(key, None) is not None)
                low, high = sorted([tuple(chance.randrange(4) for _ in range(chance.randint(0, 3))) for _ in range(2)])
                self.assertEqual(tree.scan(low, high), [cell for cell in sorted(held.items()) if low <= cell[0] < high])
                self.assertEqual(tree.lookup(key), held.get(key))
                if step % 50 == 49:
                    self.check(tree, held)
                    tree.pager.commit(step)
            deepest = max(deepest, len(tree.path(())))
            found = Tree(recover(tree.pager.disk.restarted((), 0)), tree.root)
            self.check(found, held)
        self.assertGreater(deepest, 2)

    def test_ranges_with_bounds_that_no_key_has(self):
        keys = [(number, 5) for number in range(0, 100, 2)]
        tree = filled_tree(keys)
        bounds = [(), (0,), (0, 5), (0, 6), (1,), (30, 5), (31, 0), (98, 5), (98, 6), (99,), (200, 1)]
        for low in bounds:
            self.assertEqual(tree.scan(low), pairs(key for key in keys if key >= low))
            for high in bounds:
                self.assertEqual(tree.scan(low, high), pairs(key for key in keys if low <= key < high), (low, high))
        self.assertEqual((tree.scan(), tree.scan((), None), tree.scan((200,), None)), (pairs(keys), pairs(keys), []))

    def test_what_a_range_reads(self):
        keys = [(number // 50, number % 50, 5) for number in range(400)]
        tree = filled_tree(keys)
        leaves = [number for number in tree.page_numbers() if tree.pager.page(number).kind == LEAF]
        self.assertGreater(len(tree.path(())), 3)
        chance = random.Random(1)
        for _ in range(300):
            low, high = sorted([(chance.randrange(8), chance.randrange(50),
                chance.choice((4, 5, 6))) for _ in range(2)])
            way = tree.path(low)
            last = leaves.index(tree.path(high)[-1])
            # The leaf behind the second bound's own one is read only if that one has no key from the bound on.
            more = 1 if tree.pager.page(leaves[last]).cells[-1][0] < high else 0
            recorder = Recorder(tree.pager)
            found = Tree(recorder, tree.root).scan(low, high)
            self.assertEqual(found, pairs(key for key in keys if low <= key < high))
            allowed = [*way, *leaves[leaves.index(way[-1]):last + 1 + more]]
            self.assertLessEqual(set(recorder.numbers), set(allowed))
        for key in keys:
            recorder = Recorder(tree.pager)
            Tree(recorder, tree.root).scan(key, (*key, 0))
            self.assertEqual(sorted(set(recorder.numbers)), sorted(tree.path(key)))
            recorder = Recorder(tree.pager)
            self.assertEqual(Tree(recorder, tree.root).lookup(key), key[:1])
            self.assertEqual(sorted(set(recorder.numbers)), sorted(tree.path(key)))

    def test_clear(self):
        for many in (0, 1, 300):
            tree = filled_tree([fixed(number, 2) for number in range(many)])
            numbers = tree.page_numbers()
            tree.clear()
            self.assertEqual((tree.scan(), tree.page_numbers(), tree.check()), ([], [tree.root], 0))
            self.assertEqual(sorted(tree.pager.free_pages()), sorted(numbers[1:]))
            tree.put((1,), (2,))
            self.check(tree, {(1,): (2,)})

    def test_two_trees_share_pages_that_are_freed(self):
        one = filled_tree([fixed(number, 2) for number in range(200)])
        other = Tree(one.pager, one.pager.fresh(Page(LEAF, 0, ())))
        one.clear()
        many = one.pager.page_count()
        for number in range(150):
            other.put(fixed(number, 2), ())
            one.put(fixed(number % 7, 1), ())
        self.assertEqual((other.check(), one.check(), one.pager.page_count()), (150, 7, many))
        self.assertEqual(set(one.page_numbers()) & set(other.page_numbers()), set())

    def test_a_group_that_is_cancelled(self):
        tree = filled_tree([fixed(number, 2) for number in range(100)], 96, 1)
        tree.pager.commit(1)
        before = (tree.scan(), tree.page_numbers(), tree.pager.free_pages())
        for number in range(0, 100, 3):
            tree.remove(fixed(number, 2))
            tree.put(fixed(number + 300, 2), (1,))
        tree.pager.cancel()
        self.assertEqual((tree.scan(), tree.page_numbers(), tree.pager.free_pages()), before)
        self.assertEqual(tree.check(), 100)


class FaultTest(unittest.TestCase):
    """A change of a tree that faults at any of its steps changes nothing (point 1)."""

    def check_fault(self, tree, change):
        """Check a change that faults at each step, and return how many pages the tree has more behind it."""
        many = len(tree.page_numbers())
        check_each_fault(self, tree.pager.pool, lambda: pages_held(tree.pager), change)
        tree.check()
        return len(tree.page_numbers()) - many

    def test_puts_and_removals(self):
        for capacity in (1, 16):
            grown, shrunk = set(), set()
            tree = empty_tree(96, capacity)
            tree.pager.commit(1)
            for number in range(40):
                grown.add(self.check_fault(tree, lambda: tree.put(fixed(number * 7 % 40, 2), (1,) * 10)))
            tree.pager.commit(2)
            for number in range(40):
                shrunk.add(self.check_fault(tree, lambda: tree.remove(fixed(number * 3 % 40, 2))))
            self.assertEqual((tree.scan(), tree.page_numbers()), ([], [tree.root]))
            self.assertTrue({0, 1, 2} <= grown and {0, -1, -2} <= shrunk, (grown, shrunk))

    def test_clearing(self):
        tree = filled_tree([fixed(number, 2) for number in range(60)])
        tree.pager.commit(1)
        self.assertLess(self.check_fault(tree, tree.clear), -5)

    def test_crashes(self):
        # With a pool of few pages a change writes pages of earlier groups, and may crash at each of these writes.
        crashed = 0
        for fuse in range(8):
            keys = [fixed(number, 2) for number in range(40)]
            tree = filled_tree(keys, 96, 4)
            tree.pager.commit(1)
            before = pairs(keys)
            tree.pager.disk.arm(fuse)
            try:
                tree.clear()
                self.assertEqual(tree.scan(), [])
            except DiskFault:
                crashed += 1
                shown = {number: tree.pager.pool.pages[number].shown() for number in tree.pager.pool.pages}
                disk = tree.pager.disk.restarted((), 0)
                found = Tree(recover(disk), tree.root)
                self.assertEqual((found.scan(), tree.pager.pool.open_group), (before, {}))
                self.assertEqual(shown, {number: found.pager.page(number).shown() for number in shown})
        self.assertGreater(crashed, 2)


class PartsTest(unittest.TestCase):
    def test_children(self):
        page = inner(7, ((3,), 8), ((3, 1), 300), ((9,), 70000))
        self.assertEqual(children_of(page), [7, 8, 300, 70000])
        for key, number in (
            ((), 7), ((2, 9, 9), 7), ((3,), 8), ((3, 0), 8), ((3, 1), 300), ((8,), 300), ((9,), 70000), ((255,), 70000),
        ):
            self.assertEqual(child_for(page, key), number, key)

    def test_halves_of_leaves(self):
        for cells in (
            [((number,), (1,) * 12) for number in range(6)], [((number,), ()) for number in range(20)],
            [((number,), (1,) * (16 if number < 4 else 0)) for number in range(7)],
            [((number,), (1,) * (16 if number > 2 else 0)) for number in range(7)],
        ):
            page = Page(LEAF, 77, cells)
            self.assertGreater(page.size(), 96)
            left, right, key = halves(page)
            self.assertEqual((left.cells + right.cells, left.kind, right.kind, right.link),
                (page.cells, LEAF, LEAF, 77))
            self.assertTrue(left.cells[-1][0] < key <= right.cells[0][0])
            self.assertLessEqual(max(left.size(), right.size()), 96)

    def test_halves_of_inner_pages(self):
        for lengths in ([17] * 4, [1] * 10, [17, 17, 17, 1, 1, 1, 1], [1, 1, 1, 1, 17, 17, 17]):
            page = inner(50, *[((number,) * many, number) for number, many in enumerate(lengths, 60)])
            self.assertGreater(page.size(), 96)
            left, right, key = halves(page)
            self.assertEqual((left.kind, right.kind, left.link), (INNER, INNER, 50))
            self.assertEqual((*left.cells, (key, fixed(right.link, 4)), *right.cells), page.cells)
            self.assertTrue(left.cells != () and right.cells != ())
            self.assertLessEqual(max(left.size(), right.size()), 96)


class CheckTest(unittest.TestCase):
    """Trees whose pages are put by hand: a root with the leaves 4, 5 and 6, and pages that break it."""

    def damaged(self, changes):
        tree = empty_tree()
        pages = {
            2: inner(4, ((3,), 5), ((6,), 6)), 4: Page(LEAF, 5, [((1,), ()), ((2,), ())]),
            5: Page(LEAF, 6, [((3,), ())]), 6: Page(LEAF, 0, [((6,), ()), ((7,), ())]), 7: Page(LEAF, 0, [((8,), ())]),
            **changes,
        }
        for number, page in pages.items():
            tree.pager.put(number, page)
        return tree

    def test_a_sound_tree(self):
        tree = self.damaged({})
        self.assertEqual((tree.check(), tree.page_numbers(), tree.path((4,))), (5, [2, 4, 5, 6], [2, 5]))
        self.assertEqual(tree.scan((2,), (7,)), [((2,), ()), ((3,), ()), ((6,), ())])

    def test_damaged_trees(self):
        for changes in (
            {4: Page(LEAF, 6, [((1,), ())])}, {6: Page(LEAF, 7, [((6,), ())])}, {4: Page(LEAF, 0, [((1,), ())])},
            {4: Page(LEAF, 5, [((2,), ()), ((1,), ())])}, {4: Page(LEAF, 5, [((1,), ()), ((1,), ())])},
            {4: Page(LEAF, 5, [((3,), ())])}, {5: Page(LEAF, 6, [((2,), ())])}, {5: Page(LEAF, 6, [((6,), ())])},
            {2: inner(4, ((6,), 5), ((3,), 6))}, {5: inner(7, ((4,), 6))}, {5: Page(LEAF, 6, ())},
            {5: Page(4, 0, ())}, {2: inner(4, ((3,), 2), ((6,), 6))}, {2: inner(2, ((3,), 5), ((6,), 6))},
        ):
            with self.assertRaises(TreeFault):
                self.damaged(changes).check()

    def test_damaged_pages(self):
        tree = filled_tree([fixed(number, 2) for number in range(60)])
        tree.pager.commit(1)
        tree.pager.checkpoint()
        disk = tree.pager.disk
        blocks = {**disk.blocks, tree.page_numbers()[-1]: (1,) * 96}
        self.assertRaises(PageFault, Tree(recover(Disk(96, blocks)), tree.root).check)


if __name__ == "__main__":
    unittest.main()
