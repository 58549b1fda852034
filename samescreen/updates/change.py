"""From the look of one screen to that of another: the steps, and what they cost."""

from samescreen.deeds.writing import tested_size
from samescreen.errors import OtherSize
from samescreen.moves.routes import Routes


class Step:
    """A step without what depends on the situation before it.

    `place` is None if the step is made wherever the cursor is. `tail` has the
    deeds that follow when the cursor is there with the step's pen.
    """

    def __init__(self, word, place, pen, tail, after):
        self.word = word
        self.place = place
        self.pen = pen
        self.tail = tail
        self.tail_size = tested_size(tail)
        self.after = after


class Change:
    """Two screens of the same size, and the steps between their looks."""

    def __init__(self, p, q):
        size = size_of_screen(p)
        if size_of_screen(q) != size:
            raise OtherSize(0)
        self.routes = Routes(size, p[3])
        old = all_cells(p)
        new = all_cells(q)
        self.cell_count = len(new)
        self.same = [before == wanted for before, wanted in zip(old, new)]
        self.cell_steps = steps_of_cells(new, size[1])
        self.pen_sizes = {pen: tested_size([("pen", pen)]) for pen in [q[2]] + [cell[1] for cell in new]}
        self.goal_cursor = q[1]
        self.arrival = Step("end", None, q[2], [], None)
        self.last_step = end_step(q)

    def steps_from(self, situation):
        """Return all steps from a situation, in the order of the document."""
        i, cursor, pen = situation
        if i >= self.cell_count:
            return [self.end_from(cursor)]
        if self.same[i]:
            return [Step("leave", None, pen, [], (i + 1, cursor, pen))] + self.cell_steps[i]
        return list(self.cell_steps[i])

    def priced_steps(self, situation):
        """Return the sizes of all steps from a situation, each with the next situation."""
        i, cursor, pen = situation
        if i >= self.cell_count:
            return [(self.size_of_step(self.end_from(cursor), situation), None)]
        steps = self.cell_steps[i]
        # All of them reach the same place with the same pen first.
        reach = self.reach_size(steps[0], situation)
        priced = [(reach + step.tail_size, step.after) for step in steps]
        if self.same[i]:
            priced.append((0, (i + 1, cursor, pen)))
        return priced

    def layers_from(self, first):
        """Return the situations that steps lead to from the first one, by their indexes."""
        layers = [{} for _ in range(self.cell_count + 1)]
        layers[0][first] = True
        for i in range(self.cell_count):
            # These lead to the same situations wherever the cursor is.
            for step in self.cell_steps[i]:
                layers[step.after[0]][step.after] = True
            if self.same[i]:
                for _, cursor, pen in list(layers[i]):
                    layers[i + 1][(i + 1, cursor, pen)] = True
        return layers

    def end_from(self, cursor):
        """Return the step that ends a plan from a cursor."""
        if cursor == self.goal_cursor:
            return self.arrival
        return self.last_step

    def deeds_of(self, step, situation):
        """Return the deeds of a step from a situation."""
        _, cursor, pen = situation
        deeds = []
        if step.place is not None:
            deeds.extend(self.routes.told_moves(cursor, step.place))
        if step.pen != pen:
            deeds.append(("pen", step.pen))
        return deeds + step.tail

    def size_of_step(self, step, situation):
        """Return the number of the bytes of the deeds of a step from a situation."""
        return self.reach_size(step, situation) + step.tail_size

    def reach_size(self, step, situation):
        """Return the number of the bytes of a step's deeds before its tail."""
        _, cursor, pen = situation
        size = 0
        if step.place is not None:
            size = self.routes.least_size(cursor, step.place)
        if step.pen != pen:
            size += self.pen_sizes[step.pen]
        return size


def size_of_screen(screen):
    """Return the numbers of rows and columns."""
    return (len(screen[0]), len(screen[0][0]))


def all_cells(screen):
    """Return the cells in reading order."""
    return [cell for row in screen[0] for cell in row]


def steps_of_cells(cells, columns):
    """Return, for each cell, the steps but for `leave`."""
    stops = blank_stops(cells)
    found = []
    for i, (char, pen) in enumerate(cells):
        row, column = divmod(i, columns)
        place = (row, column)
        row_stop = i - column + columns
        steps = []
        if stops[i] == len(cells):
            steps.append(Step("clear", place, pen, [("clear", 0)], (len(cells), place, pen)))
        if stops[i] >= row_stop:
            steps.append(Step("clear_row", place, pen, [("clear_row", 0)], (row_stop, place, pen)))
        steps.append(Step("write", place, pen, [("write", char)], (i + 1, (row, column + 1), pen)))
        found.append(steps)
    return found


def blank_stops(cells):
    """Return, for each cell, the index behind the spaces with its pen that begin there."""
    stops = list(range(len(cells)))
    for i in reversed(range(len(cells))):
        if cells[i][0] == " ":
            goes_on = i + 1 < len(cells) and cells[i + 1] == cells[i]
            stops[i] = stops[i + 1] if goes_on else i + 1
    return stops


def end_step(q):
    """Return the end of a plan from all cursors but that of Q."""
    cells, (row, column), pen = q[:3]
    if column < len(cells[row]):
        return Step("end", (row, column), pen, [], None)
    # Only writing takes a cursor behind the last column.
    char, cell_pen = cells[row][-1]
    tail = [("write", char)]
    if pen != cell_pen:
        tail.append(("pen", pen))
    return Step("end", (row, column - 1), cell_pen, tail, None)
