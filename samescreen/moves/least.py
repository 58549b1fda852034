"""The least moves from a cursor to a place, and a check of them."""

from samescreen.errors import NoMove
from samescreen.moves.moves import Ground, place_after
from samescreen.moves.routes import Routes


def least_moves(size, band, cursor, place):
    """Return the told least moves from a cursor to a place."""
    return Routes(size, band).told_moves(cursor, place)


def move_map(size, band, cursor):
    """Return the least sizes of moves from a cursor to itself and to all places."""
    routes = Routes(size, band)
    numbers = {cursor: 0}
    for place in places_of(size):
        if place != cursor:
            numbers[place] = routes.least_size(cursor, place)
    return numbers


def places_of(size):
    """Return all places of a screen of this size."""
    rows, columns = size
    return [(row, column) for row in range(rows) for column in range(columns)]


def check_moves(size, band, cursor, place, moves, numbers):
    """Tell if the numbers prove that these are least moves from a cursor to a place."""
    if not has_right_keys(size, cursor, numbers) or numbers[cursor] != 0:
        return False
    ground = Ground(size, band)
    if not (hold_for_go(ground, numbers) and hold_for_others(ground, numbers)):
        return False
    if not lead(size, band, cursor, place, moves):
        return False
    return sum([ground.sizes[move] for move in moves]) == numbers[place]


def has_right_keys(size, cursor, numbers):
    """Tell if the keys of a dict are the cursor and all places."""
    keys = {place: True for place in places_of(size)}
    keys[cursor] = True
    return len(numbers) == len(keys) and all([key in keys for key in numbers])


def hold_for_go(ground, numbers):
    """Tell if no number is too great for `go`."""
    # A `go` leads to the same place from everywhere, so the least number decides.
    least = min(numbers.values())
    return all([
        numbers[(move[1], move[2])] <= least + size
        for move, size in ground.sizes.items()
        if move[0] == "go"
    ])


def hold_for_others(ground, numbers):
    """Tell if no number is too great for the moves but `go`."""
    others = [(move, size) for move, size in ground.sizes.items() if move[0] != "go"]
    for here in numbers:
        for move, size in others:
            if ground.allows(here, move) and numbers[ground.landing(here, move)] > numbers[here] + size:
                return False
    return True


def lead(size, band, cursor, place, moves):
    """Tell if tuples are moves where they are made and lead from a cursor to a place."""
    try:
        return place_after(size, band, cursor, moves) == place
    except NoMove:
        return False
