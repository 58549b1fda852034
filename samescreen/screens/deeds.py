"""Deeds: what they are, and how they are carried out on screens."""

from samescreen.errors import NotADeed
from samescreen.screens.actions import act
from samescreen.screens.board import Board
from samescreen.screens.screen import is_char, is_number, is_pen

# Points 105 to 108: what stands behind the word of each deed.
KINDS = {
    "write": ("char",),
    "return": (),
    "line": (),
    "rise": (),
    "back": (),
    "tab": (),
    "up": ("count",),
    "down": ("count",),
    "left": ("count",),
    "right": ("count",),
    "go": ("place", "place"),
    "clear_row": ("part",),
    "clear": ("part",),
    "insert": ("count",),
    "delete": ("count",),
    "insert_rows": ("count",),
    "delete_rows": ("count",),
    "pen": ("pen",),
    "band": ("place", "bottom"),
    "wrap": ("flag",),
    "save": (),
    "restore": (),
    "reset": (),
}

# Point 109: the least and the greatest number.
LIMITS = {
    "count": (1, 9999),
    "part": (0, 2),
    "place": (0, 9998),
    "bottom": (0, 9998),
}


def is_deed(deed):
    """Tell if a tuple that begins with a text is a deed."""
    word, *values = deed
    if word not in KINDS:
        return False
    kinds = KINDS[word]
    if len(values) != len(kinds):
        return False
    return all([is_of_kind(value, kind) for value, kind in zip(values, kinds)])


def is_of_kind(value, kind):
    """Tell if a value may stand where a deed needs this kind."""
    if kind == "char":
        return is_char(value)
    if kind == "pen":
        return is_pen(value)
    if kind == "flag":
        return isinstance(value, bool)
    if kind == "bottom" and value is None:
        return True
    least, greatest = LIMITS[kind]
    return is_number(value, least, greatest)


def carry_out(screen, deed):
    """Return the screen after a deed."""
    return carry_out_all(screen, [deed])


def carry_out_all(screen, deeds):
    """Return the screen after all deeds, one after the other."""
    board = Board(screen)
    for k, deed in enumerate(deeds):
        if not is_deed(deed):
            raise NotADeed(k)
        act(board, deed)
    return board.as_screen()
