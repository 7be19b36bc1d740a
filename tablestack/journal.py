"""Journal: records of the log as framed bytes: the image of a page, and the end of a group of images."""

from tablestack.codec import checksum, fixed, natural, natural_from, number_from
from tablestack.errors import LogFault, RecordFault

IMAGE = 1
END = 2
LENGTH_BYTES = 4
SUM_BYTES = 4


def frame(payload):
    """Return the bytes of a record: its length, its bytes and their checksum."""
    return (*fixed(len(payload), LENGTH_BYTES), *payload, *checksum(payload))


def image_record(number, data):
    """Return the framed record of a page's image."""
    return frame((IMAGE, *natural(number), *data))


def end_record(stamp):
    """Return the framed record that ends a group, with the stamp of its commit."""
    return frame((END, *natural(stamp)))


def read_frames(data):
    """Return the bytes of the records at the beginning of a log, up to one that is cut or damaged."""
    found = []
    place = 0
    while place + LENGTH_BYTES <= len(data):
        start = place + LENGTH_BYTES
        end = start + number_from(data[place:start])
        payload = tuple(data[start:end])
        place = end + SUM_BYTES
        if place > len(data) or tuple(data[end:place]) != checksum(payload):
            return found
        found.append(payload)
    return found


def read_record(payload):
    """Return ("image", number, bytes) or ("end", stamp) of a record's bytes; raise LogFault for bytes that are none."""
    if len(payload) == 0 or payload[0] not in (IMAGE, END):
        raise LogFault("a record has an unknown class")
    try:
        number, place = natural_from(payload, 1)
    except RecordFault:
        raise LogFault("an invalid record") from None
    if payload[0] == IMAGE:
        return ("image", number, tuple(payload[place:]))
    if place != len(payload):
        raise LogFault("an invalid record")
    return ("end", number)


def read_groups(data):
    """Return ((stamp, ((page number, bytes), ..)), ..) of the whole groups at the beginning of a log.

    It is read up to the first record that is cut, damaged or none.
    """
    found = []
    images = []
    for payload in read_frames(data):
        try:
            record = read_record(payload)
        except LogFault:
            return found
        if record[0] == "image":
            images.append((record[1], record[2]))
        else:
            found.append((record[1], tuple(images)))
            images = []
    return found


def group_bytes(stamp, images):
    """Return the bytes of a whole group."""
    data = []
    for number, image in images:
        data.extend(image_record(number, image))
    return (*data, *end_record(stamp))
