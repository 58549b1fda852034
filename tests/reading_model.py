"""A second telling of points 202 to 205 and 301 to 302, with patterns over a text."""

import re

UNITS = re.compile(
    r"""
    \x1b\[(?P<numbers>[0-9;]*)(?P<letter>[A-Za-z])
    | \x1b(?P<sign>[^\x1b\[])
    | (?P<open>\x1b\Z|\x1b\[[0-9;]*\Z)
    | (?P<broken>\x1b\[[0-9;]*|\x1b)
    | (?P<single>[^\x1b])
    """,
    re.VERBOSE | re.DOTALL,
)

SINGLES = {"\b": ("back",), "\t": ("tab",), "\n": ("line",), "\r": ("return",)}

SIGNS = {
    "s": ("save",),
    "r": ("restore",),
    "u": ("rise",),
    "z": ("reset",),
    "w": ("wrap", True),
    "v": ("wrap", False),
}

LETTERS = {
    "A": lambda a, b: ("up", a or 1),
    "B": lambda a, b: ("down", a or 1),
    "C": lambda a, b: ("right", a or 1),
    "D": lambda a, b: ("left", a or 1),
    "I": lambda a, b: ("insert", a or 1),
    "P": lambda a, b: ("delete", a or 1),
    "L": lambda a, b: ("insert_rows", a or 1),
    "N": lambda a, b: ("delete_rows", a or 1),
    "H": lambda a, b: ("go", (a or 1) - 1, (b or 1) - 1),
    "K": lambda a, b: ("clear_row", a) if a < 3 else None,
    "J": lambda a, b: ("clear", a) if a < 3 else None,
    "m": lambda a, b: ("pen", a) if a < 16 else None,
    "b": lambda a, b: ("band", (a or 1) - 1, b - 1 if b else None),
}


def number(digits):
    digits = digits.lstrip("0")
    return int(digits or "0") if len(digits) < 5 else 9999


def deed_of_numbers(letter, numbers):
    a, b = (numbers + [0, 0])[:2]
    return LETTERS.get(letter, lambda a, b: None)(a, b)


def deed_of(unit):
    if unit["letter"]:
        return deed_of_numbers(unit["letter"], [number(digits) for digits in unit["numbers"].split(";")])
    if unit["sign"]:
        return SIGNS.get(unit["sign"])
    if unit["single"]:
        char = unit["single"]
        return ("write", char) if " " <= char <= "~" and char != "%" else SINGLES.get(char)
    return None


def told(data):
    """The spans with their deeds, and the rest."""
    spans, rest = [], []
    for unit in UNITS.finditer("".join(map(chr, data))):
        deed = deed_of(unit)
        if deed is not None:
            spans.append((unit.start(), unit.end(), deed))
        if unit["open"]:
            rest = list(data[unit.start():])
    return spans, rest
