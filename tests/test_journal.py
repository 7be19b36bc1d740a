"""Point 15: records and groups of the log, read up to the first record that is cut, damaged or none."""

import unittest

from tablestack.codec import checksum
from tablestack.errors import LogFault
from tablestack.journal import end_record, frame, group_bytes, image_record, read_frames, read_groups, read_record

GROUPS = [(1, ((0, (1, 2, 3)), (5, (4, 5)))), (2, ()), (300, ((200, (9,) * 20),)), (301, ((0, ()),))]


def whole_log():
    return tuple(one for stamp, images in GROUPS for one in group_bytes(stamp, images))


class RecordTest(unittest.TestCase):
    def test_frames(self):
        for payload in ((), (7,), (1, 2, 3), (255,) * 300):
            self.assertEqual(frame(payload), (0, 0, len(payload) // 256, len(payload) % 256, *payload,
                    *checksum(payload)))
            self.assertEqual(read_frames(frame(payload)), [payload])
            self.assertEqual(read_frames(list(frame(payload)) * 3), [payload] * 3)
        self.assertEqual(read_frames(()), [])

    def test_records(self):
        for number, coded in ((0, (0,)), (5, (5,)), (127, (127,)), (128, (128, 1)), (300, (172, 2))):
            self.assertEqual(image_record(number, (7, 8)), frame((1, *coded, 7, 8)))
            self.assertEqual(end_record(number), frame((2, *coded)))
            self.assertEqual(read_record((1, *coded, 7, 8)), ("image", number, (7, 8)))
            self.assertEqual(read_record((1, *coded)), ("image", number, ()))
            self.assertEqual(read_record((2, *coded)), ("end", number))
            self.assertEqual(read_record([2, *coded]), ("end", number))

    def test_invalid_records(self):
        for payload in (
            (), (0,), (3, 1), (255, 1), (1,), (2,), (1, 128), (2, 128), (2, 200, 200), (1, 128, 0), (2, 128, 0),
            (2, 5, 0), (2, 5, 6), (2, 128, 1, 1), (1, 255, 255, 255),
        ):
            with self.assertRaises(LogFault, msg=payload):
                read_record(payload)

    def test_frames_that_are_cut_or_damaged(self):
        data = (*frame((1, 2)), *frame((3,)), *frame(()))
        ends = (10, 19, 27)
        for cut in range(len(data) + 1):
            self.assertEqual(read_frames(data[:cut]), [(1, 2), (3,), ()][:sum(end <= cut for end in ends)], cut)
        for place in range(len(data)):
            for change in (1, 77, 255):
                changed = (*data[:place], (data[place] + change) % 256, *data[place + 1:])
                self.assertEqual(read_frames(changed), [(1, 2), (3,), ()][:sum(end <= place for end in ends)], place)
        self.assertEqual(read_frames((255, 255, 255, 255, 1, 2, 3)), [])


class GroupTest(unittest.TestCase):
    def test_groups(self):
        self.assertEqual(group_bytes(3, [(1, (5, 6)), (0, (7,))]),
            (*image_record(1, (5, 6)), *image_record(0, (7,)), *end_record(3)))
        self.assertEqual(group_bytes(3, ()), end_record(3))
        self.assertEqual(read_groups(whole_log()), GROUPS)
        self.assertEqual(read_groups(list(whole_log())), GROUPS)
        self.assertEqual(read_groups(()), [])

    def test_logs_that_are_cut_or_damaged(self):
        data = whole_log()
        ends = [sum(len(group_bytes(*group)) for group in GROUPS[:many + 1]) for many in range(len(GROUPS))]
        for cut in range(len(data) + 1):
            self.assertEqual(read_groups(data[:cut]), GROUPS[:sum(end <= cut for end in ends)], cut)
        for place in range(len(data)):
            for change in (1, 128, 255):
                changed = (*data[:place], (data[place] + change) % 256, *data[place + 1:])
                self.assertEqual(read_groups(changed), GROUPS[:sum(end <= place for end in ends)], place)

    def test_images_without_the_end_of_their_group(self):
        image, end = image_record(4, (1,)), end_record(8)
        self.assertEqual(read_groups(image), [])
        self.assertEqual(read_groups(image + image + end + image), [(8, ((4, (1,)), (4, (1,))))])

    def test_records_that_are_none(self):
        first, image, end = group_bytes(1, [(2, (3,))]), image_record(4, (1,)), end_record(8)
        for payload in ((), (3, 1), (2,), (2, 5, 5), (1,), (1, 128), (0, 0)):
            for log in (first + frame(payload) + image + end, first + image + frame(payload) + end):
                self.assertEqual(read_groups(log), [(1, ((2, (3,)),))], payload)


if __name__ == "__main__":
    unittest.main()
