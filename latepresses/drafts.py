"""Worlds that are being changed."""


class Draft:
    """A world as a deed has changed it so far, over the looks at the world ahead of it."""

    def __init__(self, looks):
        self._looks = looks
        self._changed = {}

    def at(self, cell):
        """Returns the value of a cell; one that was changed is no look any more."""
        if cell in self._changed:
            return self._changed[cell]
        return self._looks.at(cell)

    def put(self, cell, value):
        """Changes a cell."""
        # A deed writes only cells that it looked at.
        self._looks.at(cell)
        self._changed[cell] = value

    def writes(self):
        """Returns the ascending tuple of (cell, value) of the cells that have another value now."""
        cells = [cell for cell in sorted(self._changed) if self._changed[cell] != self._looks.at(cell)]
        return tuple([(cell, self._changed[cell]) for cell in cells])


class Sheet:
    """A world that is changed without looks."""

    def __init__(self, world):
        self._cells = list(world)

    def at(self, cell):
        """Returns the value of a cell."""
        return self._cells[cell]

    def put(self, cell, value):
        """Changes a cell."""
        self._cells[cell] = value

    def told(self):
        """Returns the world as it is now."""
        return tuple(self._cells)
