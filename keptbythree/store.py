"""Stores of variables and constraints, which answer questions about all solutions."""

from keptbythree.entries import above
from keptbythree.errors import Busy, NothingLeft
from keptbythree.least import settled
from keptbythree.orders import arranged
from keptbythree.sets import ClosedSet
from keptbythree.solver import Solver
from keptbythree.states import State


class Batch:
    """For one `with` statement: all actions of its block on a store count as one action."""

    def __init__(self, store, past, future):
        self._store = store
        self._past = past
        self._future = future
        self._begin = None

    def __enter__(self):
        store = self._store
        # In another batch of the same store this one does nothing.
        if not store._is_busy:
            store._is_busy = True
            self._begin = store._state

    def __exit__(self, kind, value, trace):
        store = self._store
        if self._begin is not None:
            store._is_busy = False
            if kind is None:
                self._past.append(self._begin)
                self._future.clear()
            if kind is not None:
                store._state = self._begin
                store._shown = None


class Store:
    """Variables, visible or hidden, and constraints that their values satisfy."""

    def __init__(self):
        self._state = State({}, (), {}, 0)
        # The states to which undo and redo lead, the next one last.
        self._past = []
        self._future = []
        self._is_busy = False
        self._solver = Solver()
        # The set of the store, as long as it is known.
        self._shown = None

    def declare(self, *names, kind):
        """Adds variables of this kind, which are visible."""
        self._act(self._state.with_variables(names, kind))

    def put(self, constraint):
        """Puts a constraint, any value. Returns its number."""
        self._act(self._state.with_constraint(constraint))
        return self._state.last

    def take_back(self, number):
        """Takes back the constraint with this number."""
        self._act(self._state.without(number))

    def hide(self, *names):
        """Hides visible variables."""
        self._act(self._state.with_hidden(names))

    def show(self, *names):
        """Shows hidden variables, which become the last visible ones."""
        self._act(self._state.with_shown(names))

    @property
    def order(self):
        """The names of the visible variables, in their order."""
        return self._state.visible

    @order.setter
    def order(self, value):
        self._act(self._state.with_order(value))

    def arrange(self, order):
        """Changes the order of the visible variables."""
        self.order = order

    @property
    def names(self):
        """The names of all variables, in the order in which they were added."""
        return tuple(self._state.variables)

    def closed_set(self):
        """The set of the rows of the values of the visible variables in all solutions."""
        if self._shown is None:
            self._shown = self._made_set()
        return self._shown

    def has(self, *values):
        """Whether these, any values, are a row of the set of the store."""
        return self.closed_set().has(values)

    def possible(self, variable, **fixed):
        """The values of the variable in the solutions that fit."""
        self._state.check_known(variable)
        frame = self._fitting(fixed)
        if frame is None:
            return []
        return sorted(frame.entries[self._state.places([variable])[0]])

    def solution(self, **fixed):
        """The least solution that fits, or None."""
        frame = self._fitting(fixed)
        if frame is None:
            return None
        return dict(zip(self._state.variables, frame.least_row()))

    def solutions(self, **fixed):
        """All solutions that fit, in ascending order, each found when it is asked for."""
        names = self.names
        frame = self._fitting(fixed)
        row = None if frame is None else frame.least_row()
        while row is not None:
            yield dict(zip(names, row))
            row = above(frame.tables, frame.entries, row, row, len(row))

    def reasons(self, **fixed):
        """The numbers of constraints of which none can be left out so that no solution fits, or None if one fits."""
        self._state.check_fixed(fixed)
        return self._solver.reasons(self._state, fixed)

    def constraints(self):
        """The standing constraints by their numbers."""
        return dict(self._state.standing)

    def undo(self):
        """Reverts the last action that is not reverted."""
        self._step(self._past, self._future)

    def redo(self):
        """Repeats the action that was reverted last."""
        self._step(self._future, self._past)

    def batch(self):
        """An object for one `with` statement, whose block counts as one action."""
        return Batch(self, self._past, self._future)

    def attempt(self, function):
        """Calls the function with the store in a batch and returns what it returns."""
        with self.batch():
            return function(self)

    def __len__(self):
        return len(self._state.standing)

    def __repr__(self):
        return f"Store(variables={len(self._state.variables)}, constraints={len(self._state.standing)})"

    def _act(self, state):
        """Goes on to a new state by an action."""
        if not self._is_busy:
            self._past.append(self._state)
            self._future.clear()
        self._change(state)

    def _step(self, states, others):
        """Goes to the last one of some states, from which others lead back."""
        if self._is_busy:
            raise Busy()
        if not states:
            raise NothingLeft()
        others.append(self._state)
        self._change(states.pop())

    def _change(self, state):
        self._state = state
        self._shown = None

    def _fitting(self, fixed):
        """The frame of the solutions that fit, or None if there are none."""
        self._state.check_fixed(fixed)
        return self._solver.fitting(self._state, fixed)

    def _made_set(self):
        """The set of the store, made anew."""
        state = self._state
        kinds = [state.variables[name] for name in state.visible]
        frame = self._solver.frame(state)
        if frame is None:
            return ClosedSet(kinds, None)
        places = state.places(state.visible)
        return ClosedSet(kinds, settled(arranged(frame.tables, frame.columns, frame.entries, places)))
