"""The solver of a store: the solutions of its constraints as frames, one place for each variable."""

from keptbythree.entries import entries_of_all
from keptbythree.frames import frame_of
from keptbythree.narrow import narrowed


class Solver:
    """Frames of the solutions of the constraints with the least numbers, as many as are known.

    They are kept while the state of a store changes, as far as its variables and these constraints stay.
    """

    def __init__(self):
        self._pairs = []
        self._steps = []
        self._frames = []

    def frame(self, state):
        """The frame of all solutions, or None if there are none."""
        self._keep(state)
        numbers = list(state.standing)[len(self._steps):]
        for number in numbers:
            constraint = state.standing[number]
            self._frames.append(_imposed(state, constraint, self._frames[-1]))
            self._steps.append((number, constraint))
        return self._frames[-1]

    def _keep(self, state):
        """Keeps those frames alone that are right for the state."""
        pairs = list(state.variables.items())
        if not self._frames or self._pairs != pairs:
            self._pairs = pairs
            self._steps = []
            self._frames = [_frame_of_all(state)]
        same = 0
        for step, number in zip(self._steps, state.standing):
            if step != (number, state.standing[number]):
                break
            same += 1
        del self._steps[same:]
        del self._frames[same + 1:]

    def fitting(self, state, values):
        """The frame of the solutions with these values of some names, or None if there are none."""
        return _fixed(state, values, self.frame(state))

    def reasons(self, state, values):
        """The reasons why no solution has these values of some names, or None if one has."""
        if self.fitting(state, values) is not None:
            return None
        numbers = list(state.standing)
        heads = [_fixed(state, values, _frame_of_all(state))]
        for number in numbers:
            heads.append(_imposed(state, state.standing[number], heads[-1]))
        kept = []
        for at in range(len(numbers) - 1, -1, -1):
            # The frame of the solutions of the constraints before this one, and of those kept behind it.
            frame = heads[at]
            for number in kept:
                frame = _imposed(state, state.standing[number], frame)
            if frame is not None:
                kept.append(numbers[at])
        return tuple(sorted(kept))


def _frame_of_all(state):
    """The frame of all values of the variables."""
    kinds = list(state.variables.values())
    tables = tuple([kind.table for kind in kinds])
    return frame_of(tables, tuple([kind._columns for kind in kinds]), entries_of_all(tables))


def _imposed(state, constraint, frame):
    """The frame of those rows of a frame, or of None, that satisfy the constraint, or None."""
    return None if frame is None else constraint.imposed(frame, state.places(constraint.names))


def _fixed(state, values, frame):
    """The frame of those rows of a frame, or of None, that have these values of some names, or None."""
    for name, value in values.items():
        if frame is not None:
            frame = narrowed(frame, state.places([name]), [(value,)])
    return frame
