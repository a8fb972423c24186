"""Promises [3] and [12] to [16]: random histories of small stores against a plain store that lists all solutions."""

import unittest

from keptbythree.sets import ClosedSet
from keptbythree.store import Store
from plain_store import Actions, PlainStore, done, made, outcome
from samples import all_rows, numbers, plain_certificate


class Left(Exception):
    """An error that leaves a block."""


class Histories(unittest.TestCase):
    def check_state(self, store, plain):
        """What can be asked of a store without arguments."""
        state = plain.state
        self.assertEqual(store.names, tuple(state["variables"]))
        self.assertEqual(store.order, tuple(state["visible"]))
        self.assertEqual(len(store), len(state["standing"]))
        self.assertEqual(repr(store), f"Store(variables={len(store.names)}, constraints={len(store)})")
        self.assertEqual({number: str(constraint) for number, constraint in store.constraints().items()},
                         {number: str(made(rule)) for number, rule in state["standing"].items()})
        self.assertEqual(list(store.constraints()), sorted(state["standing"]))

    def check_set(self, store, plain):
        rows, kinds = plain.rows(), plain.visible_kinds()
        closed = store.closed_set()
        self.assertEqual(closed.kinds, tuple(kinds))
        self.assertEqual(closed.certificate(), plain_certificate(rows, len(kinds)))
        self.assertEqual(closed, ClosedSet.of_rows(kinds, rows))
        self.assertEqual([row for row in all_rows(kinds) if store.has(*row)], rows)
        self.assertEqual(list(store.solutions()), plain.all_solutions())

    def check_questions(self, store, plain, actions):
        for _ in range(4):
            fixed, name = actions.fixed(), actions.name()
            for one, other in ((lambda: store.possible(name, **fixed), lambda: plain.possible(name, **fixed)),
                               (lambda: store.solution(**fixed), lambda: plain.solution(**fixed)),
                               (lambda: list(store.solutions(**fixed)), lambda: plain.solutions(**fixed)),
                               (lambda: store.reasons(**fixed), lambda: plain.reasons(**fixed))):
                found = outcome(one)
                self.assertEqual(found, outcome(other))
            if found[0] == "returned" and found[1] is not None:
                # With any of the reasons left out a fitting solution exists.
                for number in found[1]:
                    rules = [rule for other, rule in plain.state["standing"].items()
                             if other in found[1] and other != number]
                    self.assertTrue(plain.fitting(fixed, rules))
                self.assertFalse(plain.fitting(fixed, [plain.state["standing"][number] for number in found[1]]))

    def act(self, store, plain, actions):
        action = actions.action()
        found, expected = done(store, plain, action)
        self.assertEqual(found, expected, action)
        self.check_state(store, plain)

    def block(self, store, plain, actions, depth):
        """A batch with random actions, perhaps batches in it, and perhaps left by an error."""
        is_left = actions.below(3) == 0
        plain.begin()
        try:
            with store.batch():
                for _ in range(actions.below(4)):
                    if depth and not actions.below(3):
                        self.block(store, plain, actions, depth - 1)
                    else:
                        self.act(store, plain, actions)
                if is_left:
                    raise Left()
        except Left:
            self.assertTrue(is_left)
        plain.end(is_left)
        self.check_state(store, plain)

    def test_histories(self):
        raised = {}
        for seed in range(60):
            store, plain = Store(), PlainStore()
            actions = Actions(numbers(seed), plain)
            for turn in range(40):
                if actions.below(9):
                    self.act(store, plain, actions)
                else:
                    self.block(store, plain, actions, 2)
                if turn % 3 == 0 and len(all_rows(list(plain.state["variables"].values()))) <= 200:
                    self.check_set(store, plain)
                    self.check_questions(store, plain, actions)
            raised[len(plain.state["standing"])] = True
            while plain.past:
                plain.undo()
                store.undo()
                self.check_state(store, plain)
            while plain.future:
                plain.redo()
                store.redo()
                self.check_state(store, plain)
        self.assertGreater(len(raised), 4)

    def test_unlike_histories_of_the_same_constraints(self):
        for seed in range(60, 90):
            store, plain = Store(), PlainStore()
            actions = Actions(numbers(seed), plain)
            for _ in range(30):
                self.act(store, plain, actions)
            kept = [made(rule) for rule in plain.state["standing"].values()]
            for turn, order in enumerate((kept, kept[::-1], sorted(kept, key=lambda _: actions.below(99)))):
                other = self.rebuilt(plain.state, order, turn)
                self.assertEqual(other.order, store.order)
                self.assertEqual(other.closed_set().certificate(), store.closed_set().certificate())
                self.assertTrue(other.closed_set() == store.closed_set())
                for name in store.names:
                    self.assertEqual(other.possible(name), store.possible(name))

    def rebuilt(self, state, order, turn):
        """A store with the same variables, added in another order, and these constraints, put in another way."""
        other = Store()
        names = list(state["variables"])
        for name in names[::-1] if turn else names:
            other.declare(name, kind=state["variables"][name])
        for constraint in order:
            number = other.put(constraint)
            if turn == 1:
                other.take_back(number)
                other.put(constraint)
            if turn == 2:
                other.undo()
                other.redo()
        if turn == 2:
            other.hide(*names)
            other.show(*state["visible"])
        else:
            other.hide(*[name for name in names if name not in state["visible"]])
            other.arrange(list(state["visible"]))
        return other


if __name__ == "__main__":
    unittest.main()
