"""Point 13: pages as the bytes of a block and back, sizes, the room of a cell, what is refused."""

import random
import unittest

from tablestack.codec import checksum
from tablestack.errors import PageFault
from tablestack.pages import Page, cell_room, page_bytes, page_from


def summed(*data):
    """Return bytes and their checksum."""
    return (*data, *checksum(data))


class PagesTest(unittest.TestCase):
    def test_pages(self):
        page = Page(2, 7, [[[1, 2], [3]], ((4,), ())])
        self.assertEqual(page.shown(), (2, 7, (((1, 2), (3,)), ((4,), ()))))
        self.assertEqual((page.kind, page.link, page.cells, page.size()),
            (2, 7, (((1, 2), (3,)), ((4,), ())), 11 + 7 + 5))
        self.assertEqual(Page(1, 0, ()).size(), 11)

    def test_bytes(self):
        page = Page(2, 258, (((1, 2), (3,)), ((4,), ())))
        data = (2, 0, 0, 1, 2, 0, 2, 0, 2, 0, 1, 1, 2, 3, 0, 1, 0, 0, 4)
        for size in (23, 24, 96):
            self.assertEqual(page_bytes(page, size), summed(*data, *(0,) * (size - 23)))
            self.assertEqual(page_from(page_bytes(page, size)).shown(), page.shown())
            self.assertEqual(page_from(list(page_bytes(page, size))).shown(), page.shown())
        self.assertEqual(page_bytes(Page(4, 0, ()), 11), summed(4, 0, 0, 0, 0, 0, 0))

    def test_rooms(self):
        for size, room in ((96, 21), (97, 21), (98, 21), (99, 22), (256, 61), (1024, 253), (11, 0)):
            self.assertEqual(cell_room(size), room)
            cells = [((1,) * (room - 4), ())] * 4 if room >= 4 else []
            self.assertLessEqual(Page(2, 0, cells).size(), size)

    def test_pages_that_fit_exactly_or_not(self):
        for size in (96, 97, 200):
            for cells in ([((1,) * (size - 15), ())], [((), (1,) * (size - 15))],
                [((5,), ())] * ((size - 16) // 5) + [((1,) * ((size - 16) % 5 + 1), ())]):
                page = Page(3, 1, cells)
                self.assertEqual(page.size(), size)
                self.assertEqual(page_from(page_bytes(page, size)).shown(), page.shown())
                self.assertEqual(len(page_bytes(page, size + 1)), size + 1)
                self.assertRaises(PageFault, page_bytes, page, size - 1)
                self.assertRaises(PageFault, page_bytes, Page(3, 1, [*cells, ((), ())]), size)

    def test_drawn_pages(self):
        chance = random.Random(2)
        for _ in range(200):
            some = lambda most: tuple(chance.randint(0, 255) for _ in range(chance.randint(0, most)))
            page = Page(chance.randint(1, 4), chance.choice((0, 1, 2 ** 32 - 1)),
                [(some(9), some(9)) for _ in range(chance.randint(0, 4))])
            self.assertEqual(page_from(page_bytes(page, 120)).shown(), page.shown())

    def test_damaged_pages(self):
        data = page_bytes(Page(2, 3, [((1, 2), (3, 4))]), 96)
        for place in range(len(data)):
            for change in (1, 128, 255):
                with self.assertRaises(PageFault):
                    page_from((*data[:place], (data[place] + change) % 256, *data[place + 1:]))
        for cut in range(1, len(data)):
            with self.assertRaises(PageFault):
                page_from(data[:-cut])
            with self.assertRaises(PageFault):
                page_from(data[cut:])
        for other in ((), (0,) * 10, (0,) * 96, (2, *(0,) * 95), data[::-1], data + (0,)):
            with self.assertRaises(PageFault):
                page_from(other)

    def test_contents_that_are_none(self):
        for data in (
            (0, 0, 0, 0, 0, 0, 0), (5, 0, 0, 0, 0, 0, 0), (255, 0, 0, 0, 0, 0, 0), (2, 0, 0, 0, 0, 0, 0, 1),
            (2, 0, 0, 0, 0, 0, 0, 0, 0, 7),
            (2, 0, 0, 0, 0, 0, 1), (2, 0, 0, 0, 0, 0, 1, 0, 0, 0), (2, 0, 0, 0, 0, 0, 1, 0, 1, 0, 0),
            (2, 0, 0, 0, 0, 0, 1, 0, 0, 0, 1),
            (2, 0, 0, 0, 0, 0, 1, 0, 1, 0, 1, 5), (2, 0, 0, 0, 0, 0, 2, 0, 1, 0, 0, 5),
            (2, 0, 0, 0, 0, 0, 2, 0, 1, 0, 0, 5, 0, 0, 0), (2, 0, 0, 0, 0, 255, 255),
            (2, 0, 0, 0, 0, 0, 1, 255, 255, 0, 0, 0, 0), (2, 0, 0, 0, 0, 0, 1, 0, 1, 0, 0, 5, 9), (), (2,),
            (2, 0, 0, 0, 0, 0),
        ):
            with self.assertRaises(PageFault, msg=data):
                page_from(summed(*data))
        for data in ((1, 0, 0, 0, 0, 0, 0), (2, 0, 0, 0, 0, 0, 0, 0), (2, 0, 0, 0, 0, 0, 1, 0, 0, 0, 0),
            (4, 255, 255, 255, 255, 0, 1, 0, 1, 0, 0, 5, 0)):
            page = page_from(summed(*data))
            self.assertEqual(page_bytes(page, len(data) + 4), summed(*data))


if __name__ == "__main__":
    unittest.main()
