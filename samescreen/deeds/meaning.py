"""What bytes mean: a single byte, the byte behind 27, the end of a long sequence."""

from samescreen.screens.deeds import is_deed
from samescreen.screens.screen import FIRST_CHAR, LAST_CHAR, PERCENT_SIGN

ESCAPE = 27

# Point 204: a greater number counts as this one.
MOST_NUMBER = 9999

# The characters in the order of their bytes. Byte 37 has none; a blank fills its place.
CHARS = " !\"#$ &'()*+,-./0123456789:;<=>?@ABCDEFGHIJKLMNOPQRSTUVWXYZ[\\]^_`abcdefghijklmnopqrstuvwxyz{|}~"

SINGLE_DEEDS = {
    8: ("back",),
    9: ("tab",),
    10: ("line",),
    13: ("return",),
}

SIGN_DEEDS = {
    "s": ("save",),
    "r": ("restore",),
    "u": ("rise",),
    "z": ("reset",),
    "w": ("wrap", True),
    "v": ("wrap", False),
}

# Words with a number that is 1 if none is told.
COUNT_WORDS = {
    "A": "up",
    "B": "down",
    "C": "right",
    "D": "left",
    "I": "insert",
    "P": "delete",
    "L": "insert_rows",
    "N": "delete_rows",
}

# Words with a number that is taken as it is.
PLAIN_WORDS = {
    "K": "clear_row",
    "J": "clear",
    "m": "pen",
}


def char_of_byte(byte):
    """Return the character that a byte writes, or an empty text."""
    if byte == PERCENT_SIGN or not FIRST_CHAR <= byte <= LAST_CHAR:
        return ""
    return CHARS[byte - FIRST_CHAR]


def deed_of_byte(byte):
    """Return the deed of a single byte, or None."""
    char = char_of_byte(byte)
    if char != "":
        return ("write", char)
    return SINGLE_DEEDS.get(byte)


def deed_of_sign(byte):
    """Return the deed of the byte behind 27, or None."""
    return SIGN_DEEDS.get(char_of_byte(byte))


def deed_of_letter(letter, numbers):
    """Return the deed of a long sequence with this letter and these numbers, or None."""
    a = number_at(numbers, 0)
    b = number_at(numbers, 1)
    if letter in COUNT_WORDS:
        return (COUNT_WORDS[letter], max(a, 1))
    if letter in PLAIN_WORDS:
        deed = (PLAIN_WORDS[letter], a)
        return deed if is_deed(deed) else None
    if letter == "H":
        return ("go", place_of(a), place_of(b))
    if letter == "b":
        return ("band", place_of(a), None if b == 0 else place_of(b))
    return None


def number_at(numbers, k):
    """Return the number at an index, as it counts."""
    if k >= len(numbers):
        return 0
    return min(numbers[k], MOST_NUMBER)


def place_of(number):
    """Return the row or column that a number tells; those of screens begin at 0."""
    return max(number - 1, 0)
