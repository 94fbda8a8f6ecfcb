"""Linear goals: where a sum of multiples is greatest, in whole numbers."""

# Behind so many turns by which the goal has not grown, columns are chosen by which no corner is met twice.
MOST_IDLE = 20


class Tableau:
    """A corner of what some rows allow; the real numbers are those of the rows over the same whole number.

    Each row has a share: by how much the goal grows if the limit of the row does by 1. Where the goal is greatest, no
    share is negative, the rows as often as their shares tell are at least the goal, and their limits are the least so.
    """

    def __init__(self, rows, whole, columns, bases):
        # The last row is the goal, the last entry of each row is its limit.
        self._rows = rows
        self._whole = whole
        # The parts of the point are counted first, then what is left of the limits, then the parts of cuts.
        self._columns = columns
        self._bases = bases

    def can_grow(self):
        """Whether the goal can grow."""
        return min(self._rows[-1][:-1], default=0) < 0

    def grow(self, turns):
        """Go on to where the goal is greatest, for at most so many turns; tell whether it cannot grow for ever."""
        idle = 0
        for _ in range(turns):
            if not self.can_grow():
                break
            column = self._column(idle > MOST_IDLE)
            row = self._row(column)
            if row is None:
                return False
            idle = idle + 1 if self._rows[row][-1] == 0 else 0
            self._go_by(row, column)
        return True

    def _column(self, is_first):
        """The column by which the goal grows most at first, or the first one by its part of those by which it grows."""
        goal = self._rows[-1][:-1]
        if is_first:
            return self._columns.index(min([name for name, entry in zip(self._columns, goal) if entry < 0]))
        return goal.index(min(goal))

    def _row(self, column):
        """The row that limits the growth by a column most, the first one by its part, or None."""
        found = None
        for at in range(len(self._bases)):
            if self._rows[at][column] > 0 and (found is None or self._is_ahead(at, found, column)):
                found = at
        return found

    def _is_ahead(self, one, other, column):
        """Whether a row limits the growth by a column more than another one, or as much and has a lesser part."""
        left = self._rows[one][-1] * self._rows[other][column]
        right = self._rows[other][-1] * self._rows[one][column]
        return left < right or (left == right and self._bases[one] < self._bases[other])

    def _go_by(self, row, column):
        """Go to the next corner: the part of the column grows until the one of the row is 0."""
        chosen = self._rows[row]
        whole = chosen[column]
        self._rows = [turned(other, chosen, column, whole, self._whole) for other in self._rows]
        self._rows[row] = chosen[:column] + [self._whole] + chosen[column + 1:]
        self._whole = whole
        self._columns[column], self._bases[row] = self._bases[row], self._columns[column]

    def point(self, size):
        """The parts of the corner, and the whole number that they are over."""
        parts = [0] * size
        for at, base in enumerate(self._bases):
            if base < size:
                parts[base] = self._rows[at][-1]
        return parts, self._whole

    def least(self):
        """The least integer that is not less than the goal."""
        return -(-self._rows[-1][-1] // self._whole)

    def shares(self, size):
        """A dict from the rows to those of their shares that are not 0, and the whole number that they are over."""
        last = size + len(self._bases)
        pairs = list(zip(self._columns, self._rows[-1]))
        return {name - size: share for name, share in pairs if size <= name < last and share}, self._whole

    def aim(self, goal):
        """Take another goal."""
        size = len(goal)
        aims = [-self._whole * goal[name] if name < size else 0 for name in self._columns] + [0]
        for row, base in zip(self._rows, self._bases):
            if base < size and goal[base]:
                aims = [entry + goal[base] * other for entry, other in zip(aims, row)]
        self._rows[-1] = aims

    def bounded(self, size, some, sign, many):
        """The same corner, where the shares of some rows shall be many together: at least (sign 1), or at most (-1)."""
        names = {size + row: True for row in some}
        columns = [index for index, name in enumerate(self._columns) if name in names]
        made = [sign * sum([line[column] for column in columns]) for line in self._rows]
        for at, base in enumerate(self._bases):
            if base in names:
                made[at] += sign * self._whole
        made[-1] -= sign * many * self._whole
        return self._joined(made)

    def rounded(self):
        """The same corner, where what follows for whole shares from one that is not whole shall hold."""
        place = -1
        # The goal comes first, for it is what is asked.
        if self._rows[-1][-1] % self._whole == 0:
            place = max(list(range(len(self._columns))), key=lambda at: self._from_whole(at))
        made = [row[place] % self._whole for row in self._rows]
        made[-1] -= self._whole
        return self._joined(made)

    def _from_whole(self, at):
        """How far an entry of the goal is from a whole number."""
        part = self._rows[-1][at] % self._whole
        return min(part, self._whole - part)

    def _joined(self, column):
        """The same corner with one more column."""
        rows = [row[:-1] + [entry, row[-1]] for row, entry in zip(self._rows, column)]
        name = len(self._columns) + len(self._bases)
        return Tableau(rows, self._whole, [*self._columns, name], list(self._bases))


def tableau_of(rows, limits, goal):
    """The corner where all parts are 0."""
    made = [[*row, limit] for row, limit in zip(rows, limits)]
    made.append([*[-part for part in goal], 0])
    size = len(goal)
    return Tableau(made, 1, list(range(size)), [size + at for at in range(len(rows))])


def turned(row, chosen, column, whole, before):
    """A row behind a turn by another one."""
    factor = row[column]
    if factor == 0 and whole == before:
        return row
    made = [(entry * whole - factor * other) // before for entry, other in zip(row, chosen)]
    made[column] = -factor
    return made


def good_point(rows, limits, goal, turns):
    """The parts from 0 on with which the goal is great, each row at most its limit, and the number they are over.

    The goal is as great as possible unless so many turns do not get there. The limits are not negative, and the rows
    let no part grow for ever by which the goal grows.
    """
    tableau = tableau_of(rows, limits, goal)
    tableau.grow(turns)
    return tableau.point(len(goal))
