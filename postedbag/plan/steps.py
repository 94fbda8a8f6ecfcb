"""Steps from standing to standing: what single takes change, told by codes."""


class Steps:
    """What takes change in a mode, where any number of some tasks waits."""

    def __init__(self, program, table, packing, most):
        self._program = program
        self._table = table
        self._packing = packing
        self._fields = [packing.whole << (packing.bits * at) for at in range(len(program))]
        # What the finite entries of gains are allowed to be, and what they would have to be if that is too little.
        self._most = most
        self.needed = 0
        # By a mode and the bits of ANY: for each task its list of changes, or None if that was not asked for yet.
        self._known = {}
        # By a mode, the bits of ANY and a number with a bit for each task that is there: the list of changes.
        self._all = {}

    def changes(self, mode, code):
        """The list of the pairs of a mode and what is added to a code of a standing in a mode by each take."""
        there = 0
        for at, field in enumerate(self._fields):
            if code & field:
                there |= 1 << at
        wide = code & self._packing.wide
        key = (mode, wide, there)
        if key not in self._all:
            known = [self._changes_of(mode, wide, at) for at in range(len(self._fields)) if (there >> at) & 1]
            self._all[key] = [change for some in known for change in some]
        return self._all[key]

    def takes(self, mode, code):
        """The list of the takes that make the changes, in the same order: a task, the mode at its end, and its gain."""
        bag = self._packing.unpacked(code & self._packing.wide)
        return [
            (name, end, gain)
            for name, field in zip(self._program.names, self._fields)
            if code & field
            for end in range(self._program.modes)
            for gain in self._table.gains_over((name, 0, mode, end), bag)
        ]

    def _changes_of(self, mode, wide, at):
        """The list of changes by takes of a task, which has an index."""
        if (mode, wide, at) not in self._known:
            taken = 0 if wide & self._packing.endless(at) else self._packing.one(at)
            bag = self._packing.unpacked(wide)
            name = self._program.names[at]
            self._known[mode, wide, at] = [
                (end, self._packed(gain, wide) - taken)
                for end in range(self._program.modes)
                for gain in self._table.gains_over((name, 0, mode, end), bag)
            ]
        return self._known[mode, wide, at]

    def _packed(self, gain, wide):
        """The code of a gain, without what waits in any number."""
        most = max(gain)
        if most > self._most:
            self.needed = max(self.needed, most)
            return 0
        return self._packing.packed(gain) & ~self._packing.full(wide)
