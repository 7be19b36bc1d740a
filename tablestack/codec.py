"""Codec: values, rows and keys as bytes, which are tuples of numbers from 0 to 255, and back."""

from itertools import accumulate

from tablestack.errors import RecordFault, TextError
from tablestack.values import HIGHEST

ALPHABET = '\n !"#$&\'()*+,-./0123456789:;<=>?@ABCDEFGHIJKLMNOPQRSTUVWXYZ[\\]^_`abcdefghijklmnopqrstuvwxyz{|}~'
NULL_MARK = 1
INT_MARK = 2
TEXT_MARK = 3
# A text in a key ends with a byte below those of all characters, so that a text orders before those it begins.
TEXT_END = 1
FIRST_SIGN = 2
INT_BYTES = 8
MODULUS = 65521


def sign_number(sign):
    """Return the place of a character in the alphabet; raise TextError for another one."""
    place = ALPHABET.find(sign)
    if place < 0:
        raise TextError("a text has a character that cannot be stored")
    return place


def check_text(text):
    """Return a text; raise TextError if it has a character that is not in the alphabet."""
    for sign in text:
        sign_number(sign)
    return text


def fixed(number, many):
    """Return a number from 0 on as so many bytes, the highest first."""
    data = []
    for _ in range(many):
        data.append(number % 256)
        number = number // 256
    return tuple(data[::-1])


def number_from(data):
    """Return the number of bytes, the highest first."""
    number = 0
    for one in data:
        number = number * 256 + one
    return number


def key_of_value(value):
    """Return the bytes of a value within a key: they order as values do, and none is a beginning of another's."""
    if value is None:
        return (NULL_MARK,)
    if isinstance(value, str):
        signs = [sign_number(sign) + FIRST_SIGN for sign in value]
        return (TEXT_MARK, *signs, TEXT_END)
    return (INT_MARK, *fixed(value + HIGHEST, INT_BYTES))


def key_of(values):
    """Return the bytes of a row of values as a key, which order as rows of values do."""
    data = []
    for value in values:
        data.extend(key_of_value(value))
    return tuple(data)


def values_from_key(data):
    """Return the values of a key's bytes; raise RecordFault for bytes that are none."""
    values = []
    place = 0
    while place < len(data):
        value, place = value_from_key(data, place)
        values.append(value)
    return tuple(values)


def value_from_key(data, place):
    """Return (value, place after it) of a key's bytes from a place on; raise RecordFault for bytes that are none."""
    if not 0 <= place < len(data):
        raise RecordFault("a key ends")
    mark = data[place]
    if mark == NULL_MARK:
        return (None, place + 1)
    if mark == INT_MARK:
        end = place + 1 + INT_BYTES
        if end > len(data):
            raise RecordFault("a key ends within a number")
        number = number_from(data[place + 1:end]) - HIGHEST
        if number > HIGHEST:
            raise RecordFault("a number is too large")
        return (number, end)
    if mark != TEXT_MARK:
        raise RecordFault("a key has an unknown mark")
    return text_from_key(data, place + 1)


def values_end(data, many):
    """Return the place behind the first so many values of a key's bytes, None if it does not begin with as many."""
    place = 0
    for _ in range(many):
        mark = data[place] if place < len(data) else 0
        if mark == NULL_MARK:
            place += 1
        elif mark == INT_MARK:
            place += 1 + INT_BYTES
        elif mark == TEXT_MARK and TEXT_END in data[place:]:
            place = data.index(TEXT_END, place) + 1
        else:
            return None
    return place if place <= len(data) else None


def text_from_key(data, place):
    """Return (text, place after it) of a key's bytes from a text's first character on."""
    signs = []
    while place < len(data) and data[place] != TEXT_END:
        signs.append(sign_at(data[place] - FIRST_SIGN))
        place += 1
    if place == len(data):
        raise RecordFault("a key ends within a text")
    return ("".join(signs), place + 1)


def sign_at(number):
    """Return the character at a place in the alphabet; raise RecordFault if there is none."""
    if not 0 <= number < len(ALPHABET):
        raise RecordFault("no character has this number")
    return ALPHABET[number]


def natural(number):
    """Return a number from 0 on as bytes of seven bits, the lowest first, all but the last raised by 128."""
    data = []
    while number > 127:
        data.append(number % 128 + 128)
        number = number // 128
    data.append(number)
    return tuple(data)


def natural_from(data, place):
    """Return (number, place after it) of such bytes; raise RecordFault if they end, or are longer than needed."""
    number = 0
    weight = 1
    while True:
        if place >= len(data):
            raise RecordFault("a number does not end")
        one = data[place]
        place += 1
        number += one % 128 * weight
        weight = weight * 128
        if one < 128:
            # A last byte of 0 says nothing, so that the number has a shorter form.
            if one == 0 and weight > 128:
                raise RecordFault("a number is too long")
            return (number, place)


def record_of(row):
    """Return the bytes of a row of values: its length, and each value after its mark."""
    data = list(natural(len(row)))
    for value in row:
        if value is None:
            data.append(NULL_MARK)
        elif isinstance(value, str):
            data.append(TEXT_MARK)
            data.extend(natural(len(value)))
            data.extend([sign_number(sign) for sign in value])
        else:
            data.append(INT_MARK)
            data.extend(natural(2 * value if value >= 0 else -2 * value - 1))
    return tuple(data)


def row_from(data):
    """Return the row of a record's bytes; raise RecordFault for bytes that are none."""
    many, place = natural_from(data, 0)
    row = []
    while len(row) < many:
        value, place = value_from_record(data, place)
        row.append(value)
    if place != len(data):
        raise RecordFault("a record has more bytes")
    return tuple(row)


def value_from_record(data, place):
    """Return (value, place after it) of a record's bytes; raise RecordFault for bytes that are none."""
    if place >= len(data):
        raise RecordFault("a record ends")
    mark = data[place]
    if mark == NULL_MARK:
        return (None, place + 1)
    number, place = natural_from(data, place + 1)
    if mark == INT_MARK:
        value = number // 2 if number % 2 == 0 else 0 - (number + 1) // 2
        if not 0 - HIGHEST <= value <= HIGHEST:
            raise RecordFault("a number is out of range")
        return (value, place)
    if mark != TEXT_MARK or place + number > len(data):
        raise RecordFault("a record has an unknown mark, or ends within a text")
    signs = [sign_at(one) for one in data[place:place + number]]
    return ("".join(signs), place + number)


def checksum(data):
    """Return the checksum of bytes as four bytes: two sums by 65521.

    Each of the first one's values is 1 and the bytes so far; reckoning by 65521 only at the end gives the same.
    """
    first = (1 + sum(data)) % MODULUS
    second = (len(data) + sum(accumulate(data))) % MODULUS
    return fixed(65536 * second + first, 4)


def upper_key(prefix):
    """Return the least key above all that begin with a prefix, None if there is none."""
    many = len(prefix)
    while many > 0 and prefix[many - 1] == 255:
        many -= 1
    if many == 0:
        return None
    return (*prefix[:many - 1], prefix[many - 1] + 1)
