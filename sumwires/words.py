"""Kinds of things, bits of masks, rows of signs, and words of rows."""

from sumwires.errors import BadRow

LETTERS = "abcdefghijklmnopqrstuvwxyz"
NAME_SIGNS = "abcdefghijklmnopqrstuvwxyz0123456789"
LONGEST_NAME = 6
LONGEST_ROW = 64


# True and False are ints to Python.
def is_whole(thing):
    return isinstance(thing, int) and not isinstance(thing, bool)


def is_mask(thing, width):
    return is_whole(thing) and thing >= 0 and thing.bit_length() <= width


def is_name(thing):
    if not isinstance(thing, str) or thing == "" or len(thing) > LONGEST_NAME:
        return False
    return thing[0] in LETTERS and all([sign in NAME_SIGNS for sign in thing])


# Laying the upper half of the bits over the lower one takes away two bits
# wherever both are set, so that whether they are even stays as it was.
def even(number):
    width = number.bit_length()
    while width > 1:
        half = (width + 1) // 2
        number = (number >> half) ^ (number & ((1 << half) - 1))
        width = half
    return number == 0


def bits_of(mask):
    return [place for place in range(mask.bit_length()) if (mask >> place) & 1 == 1]


def mask_of(places):
    mask = 0
    for place in places:
        mask = mask ^ (1 << place)
    return mask


def text_of(mask, width):
    return "".join(["1" if (mask >> place) & 1 == 1 else "0" for place in range(width)])


def mask_in(text):
    if not isinstance(text, str):
        raise BadRow("a row of signs is a text")
    if len(text) > LONGEST_ROW:
        raise BadRow("a row has at most 64 signs")
    if any([sign not in "01" for sign in text]):
        raise BadRow("a row has no signs but 0 and 1")
    return (mask_of([place for place, sign in enumerate(text) if sign == "1"]), len(text))


def words_of(row):
    return row.split(" ")


# Masks of one width laid behind one another, the first one lowest.
def packed(masks, width):
    whole = 0
    for place, mask in enumerate(masks):
        whole = whole ^ (mask << (place * width))
    return whole


def unpacked(whole, width, count):
    return [(whole >> (place * width)) & ((1 << width) - 1) for place in range(count)]
