"""Deeds written as bytes, as few as possible."""

from samescreen.deeds.meaning import ESCAPE
from samescreen.errors import NotADeed
from samescreen.screens.deeds import KINDS, is_deed

# The bytes of the deeds that need no long sequence, but for those that write.
SHORT_BYTES = {
    ("back",): (8,),
    ("tab",): (9,),
    ("line",): (10,),
    ("return",): (13,),
    ("save",): (27, 115),
    ("restore",): (27, 114),
    ("rise",): (27, 117),
    ("reset",): (27, 122),
    ("wrap", True): (27, 119),
    ("wrap", False): (27, 118),
}

LETTERS = {
    "up": "A",
    "down": "B",
    "right": "C",
    "left": "D",
    "insert": "I",
    "delete": "P",
    "insert_rows": "L",
    "delete_rows": "N",
    "go": "H",
    "clear_row": "K",
    "clear": "J",
    "pen": "m",
    "band": "b",
}


def bytes_of(deed):
    """Return the bytes of a deed."""
    return bytes_of_all([deed])


def bytes_of_all(deeds):
    """Return the bytes of all deeds, one after the other."""
    written = []
    for k, deed in enumerate(deeds):
        if not is_deed(deed):
            raise NotADeed(k)
        written.extend(tested_bytes(deed))
    return written


def size_of(deed):
    """Return the number of the bytes of a deed."""
    return len(bytes_of(deed))


def tested_bytes(deed):
    """Return the bytes of what is known to be a deed."""
    if deed[0] == "write":
        return [ord(deed[1])]
    if deed in SHORT_BYTES:
        return list(SHORT_BYTES[deed])
    return [ESCAPE] + [ord(char) for char in "[" + numbers_text(deed) + LETTERS[deed[0]]]


def tested_size(deeds):
    """Return the number of the bytes of what are known to be deeds."""
    return sum([len(tested_bytes(deed)) for deed in deeds])


def numbers_text(deed):
    """Return what stands between the bracket and the letter of a long sequence."""
    word, *values = deed
    numbers = [number_for(value, kind) for value, kind in zip(values, KINDS[word])]
    texts = [str(number) if number > 0 else "" for number in numbers]
    # Numbers at the end that are left out need no semicolon either.
    return ";".join(texts).rstrip(";")


def number_for(value, kind):
    """Return the number that tells a value: 0 wherever a number that is left out tells it."""
    if kind == "count":
        return value if value > 1 else 0
    if kind == "place":
        return value + 1 if value > 0 else 0
    if kind == "bottom":
        return 0 if value is None else value + 1
    return value
