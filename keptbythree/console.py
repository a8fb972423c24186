"""Consoles, which take commands as strings."""

from keptbythree.commands import answer
from keptbythree.store import Store


class Console:
    """A store and named kinds, with commands for them."""

    def __init__(self):
        self._store = Store()
        self._kinds = {}

    def run(self, command):
        """Carries out a command, any value, and returns the answer."""
        return answer(self._store, self._kinds, command)

    def store(self):
        """The store of the console."""
        return self._store
