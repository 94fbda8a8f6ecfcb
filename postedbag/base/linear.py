"""Linear goals: where a sum of multiples is greatest, in whole numbers."""


class Tableau:
    """A corner of what some rows allow; the real numbers are those of the rows over the same whole number."""

    def __init__(self, rows, limits, goal):
        self._rows = [list(row) + [limit] for row, limit in zip(rows, limits)]
        self._rows.append([-part for part in goal] + [0])
        self._whole = 1
        # The parts of the point are counted first, then what is left of the limits.
        self._columns = list(range(len(goal)))
        self._bases = [len(goal) + index for index in range(len(rows))]

    def column(self):
        """The column by which the goal grows most at first, or None if it cannot grow."""
        goal = self._rows[-1][:-1]
        return goal.index(min(goal)) if min(goal) < 0 else None

    def row(self, column):
        """The row that limits the growth by a column most, the first one by its part; there is one."""
        found = None
        for at in range(len(self._bases)):
            if self._rows[at][column] > 0 and (found is None or self._is_ahead(at, found, column)):
                found = at
        return found

    def _is_ahead(self, one, other, column):
        """Whether a row limits the growth by a column more than another one, or as much and has a lesser part."""
        left = self._rows[one][-1] * self._rows[other][column]
        right = self._rows[other][-1] * self._rows[one][column]
        return left < right or (left == right and self._bases[one] < self._bases[other])

    def turn(self, row, column):
        """Go to the next corner: the part of the column grows until the one of the row is 0."""
        chosen = self._rows[row]
        whole = chosen[column]
        self._rows = [
            turned(other, chosen, column, whole, self._whole) if at != row else other
            for at, other in enumerate(self._rows)
        ]
        chosen[column] = self._whole
        self._whole = whole
        self._columns[column], self._bases[row] = self._bases[row], self._columns[column]

    def point(self):
        """The parts of the corner, and the whole number that they are over."""
        parts = [0] * len(self._columns)
        for at, base in enumerate(self._bases):
            if base < len(parts):
                parts[base] = self._rows[at][-1]
        return parts, self._whole


def turned(row, chosen, column, whole, before):
    """A row behind a turn by another one."""
    factor = row[column]
    made = [(entry * whole - factor * other) // before for entry, other in zip(row, chosen)]
    made[column] = -factor
    return made


def good_point(rows, limits, goal, turns):
    """The parts from 0 on with which the goal is great, each row at most its limit, and the number they are over.

    The goal is as great as possible unless so many turns do not get there. The limits are not negative, and the rows
    let no part grow for ever by which the goal grows.
    """
    tableau = Tableau(rows, limits, goal)
    for _ in range(turns):
        column = tableau.column()
        if column is None:
            break
        tableau.turn(tableau.row(column), column)
    return tableau.point()
