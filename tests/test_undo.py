"""Promise [16]: actions, undo and redo, batches."""

import unittest

from keptbythree.constraints import Equal, Fixed, Table
from keptbythree.errors import BadConstraint, BadName, BadOrder, Busy, NothingLeft, UnknownName, UnknownNumber
from keptbythree.store import Store
from samples import BIT, THREE
from test_store import bits, seen


class Left(Exception):
    """An error that leaves a block."""


def number_of_undos(store):
    """How often undo can be called. The store is as before afterwards."""
    many = 0
    try:
        while True:
            store.undo()
            many += 1
    except NothingLeft:
        for _ in range(many):
            store.redo()
    return many


def number_of_redos(store):
    many = 0
    try:
        while True:
            store.redo()
            many += 1
    except NothingLeft:
        for _ in range(many):
            store.undo()
    return many


class Steps(unittest.TestCase):
    def test_each_action(self):
        store = Store()
        states = [seen(store)]
        for act in (lambda: store.declare("x", "y", kind=BIT), lambda: store.declare("z", kind=THREE),
                    lambda: store.put(Fixed("x", 1)), lambda: store.put(Equal("x", "y")), lambda: store.hide("z"),
                    lambda: store.arrange(["y", "x"]), lambda: store.take_back(1), lambda: store.show("z"),
                    lambda: setattr(store, "order", ("z", "x", "y")), lambda: store.put(Table("z", rows=[(2,)]))):
            act()
            states.append(seen(store))
        self.assertEqual(number_of_undos(store), 10)
        for expected in states[-2::-1]:
            self.assertIs(store.undo(), None)
            self.assertEqual(seen(store), expected)
        for expected in states[1:]:
            self.assertIs(store.redo(), None)
            self.assertEqual(seen(store), expected)

    def test_both_ends(self):
        store = Store()
        for _ in range(2):
            self.assertRaises(NothingLeft, store.undo)
            self.assertRaises(NothingLeft, store.redo)
        store.declare("x", kind=BIT)
        self.assertRaises(NothingLeft, store.redo)
        store.undo()
        self.assertRaises(NothingLeft, store.undo)
        self.assertEqual(store.names, ())
        store.redo()
        self.assertRaises(NothingLeft, store.redo)
        self.assertEqual(store.names, ("x",))

    def test_actions_that_change_nothing(self):
        store = bits("x", "y")
        for act in (lambda: store.declare(kind=BIT), store.hide, store.show, lambda: store.arrange(["x", "y"]),
                    lambda: setattr(store, "order", ("x", "y"))):
            before, many = seen(store), number_of_undos(store)
            act()
            self.assertEqual(number_of_undos(store), many + 1)
            store.undo()
            self.assertEqual(seen(store), before)
            store.redo()

    def test_a_new_action_ends_redo(self):
        store = bits("x")
        store.put(Fixed("x", 0))
        store.undo()
        store.hide()
        self.assertRaises(NothingLeft, store.redo)
        self.assertEqual(number_of_undos(store), 2)
        self.assertEqual(store.put(Fixed("x", 1)), 1)

    def test_after_an_error(self):
        store = bits("x")
        store.put(Fixed("x", 0))
        store.undo()
        for wrong in (lambda: store.declare("", kind=BIT), lambda: store.put(None), lambda: store.take_back(1),
                      lambda: store.hide("y"), lambda: store.show("x"), lambda: store.arrange([])):
            self.assertRaises(Exception, wrong)
            self.assertEqual([number_of_undos(store), number_of_redos(store)], [1, 1])
        store.redo()
        self.assertEqual(list(store.constraints()), [1])

    def test_questions_are_no_actions(self):
        store = bits("x", "y")
        store.put(Fixed("x", 0))
        store.undo()
        self.assertEqual([store.solution(), store.possible("x"), store.reasons(), store.has(0, 0), len(store)],
                         [{"x": 0, "y": 0}, [0, 1], None, True, 0])
        store.closed_set()
        list(store.solutions())
        store.batch()
        store.redo()
        self.assertEqual(store.possible("x"), [0])

    def test_numbers_are_reverted(self):
        store = bits("x")
        self.assertEqual([store.put(Fixed("x", 0)), store.put(Fixed("x", 0))], [1, 2])
        store.take_back(2)
        store.undo()
        store.undo()
        self.assertEqual(store.put(Fixed("x", 1)), 2)
        store.undo()
        self.assertRaises(UnknownNumber, store.take_back, 2)
        self.assertEqual([store.reasons(), store.put(Fixed("x", 1)), store.reasons()], [None, 2, (1, 2)])


class Batches(unittest.TestCase):
    def test_one_action(self):
        store = bits("x", "y")
        before = seen(store)
        with store.batch():
            store.put(Fixed("x", 1))
            store.hide("y")
            store.take_back(1)
            store.put(Fixed("y", 1))
        after = seen(store)
        self.assertEqual([list(store.constraints()), store.order], [[2], ("x",)])
        store.undo()
        self.assertEqual(seen(store), before)
        store.redo()
        self.assertEqual(seen(store), after)

    def test_no_action(self):
        store = bits("x")
        store.hide()
        store.undo()
        with store.batch():
            pass
        self.assertEqual([number_of_undos(store), number_of_redos(store)], [2, 0])
        store.attempt(lambda _: None)
        self.assertEqual(number_of_undos(store), 3)

    def test_undo_and_redo_within(self):
        store = bits("x")
        store.hide()
        store.undo()
        with store.batch():
            self.assertRaises(Busy, store.undo)
            self.assertRaises(Busy, store.redo)
            store.put(Fixed("x", 1))
            self.assertRaises(Busy, store.undo)
            with store.batch():
                self.assertRaises(Busy, store.undo)
            self.assertRaises(Busy, store.redo)
        store.undo()
        self.assertEqual(len(store), 0)
        empty = Store()
        with empty.batch():
            self.assertRaises(Busy, empty.undo)

    def test_left_by_an_error(self):
        store = bits("x", "y")
        store.put(Fixed("x", 1))
        store.undo()
        before = seen(store)
        with self.assertRaises(Left):
            with store.batch():
                store.put(Fixed("y", 1))
                store.declare("z", kind=THREE)
                store.arrange(["z", "x", "y"])
                self.assertEqual(store.closed_set().width, 3)
                raise Left()
        self.assertEqual(seen(store), before)
        self.assertEqual([number_of_undos(store), number_of_redos(store)], [1, 1])
        store.redo()
        self.assertEqual([list(store.constraints()), store.possible("x")], [[1], [1]])

    def test_left_by_an_error_of_the_store(self):
        store = bits("x", "y")
        with self.assertRaises(UnknownName):
            with store.batch():
                store.put(Fixed("y", 1))
                store.put(Fixed("z", 1))
        self.assertEqual([len(store), store.put(Fixed("x", 0))], [0, 1])

    def test_an_error_that_does_not_leave(self):
        store = bits("x", "y")
        with store.batch():
            store.put(Fixed("y", 1))
            self.assertRaises(BadOrder, store.arrange, ["x"])
            self.assertRaises(BadConstraint, store.put, None)
            store.hide("x")
        self.assertEqual([len(store), store.order, number_of_undos(store)], [1, ("y",), 2])

    def test_all_sorts_of_errors_leave(self):
        for error in (Left, KeyboardInterrupt, SystemExit, StopIteration, GeneratorExit):
            store = bits("x")
            with self.assertRaises(error):
                with store.batch():
                    store.hide("x")
                    raise error()
            self.assertEqual([store.order, number_of_undos(store)], [("x",), 1])

    def test_leaving_in_other_ways(self):
        store = bits("x")

        def leave():
            with store.batch():
                store.put(Fixed("x", 1))
                return "done"

        self.assertEqual(leave(), "done")
        for _ in range(2):
            with store.batch():
                store.hide()
                continue
        self.assertEqual([len(store), number_of_undos(store)], [1, 4])

    def test_nested(self):
        store = bits("x", "y")
        with store.batch():
            store.put(Fixed("x", 1))
            with store.batch():
                store.put(Fixed("y", 1))
                with store.batch():
                    store.hide("x")
            store.declare("z", kind=BIT)
        self.assertEqual([number_of_undos(store), len(store), store.order], [2, 2, ("y", "z")])
        store.undo()
        self.assertEqual([len(store), store.order], [0, ("x", "y")])

    def test_an_error_that_leaves_only_the_inner_block(self):
        store = bits("x", "y")
        with store.batch():
            store.put(Fixed("x", 1))
            with self.assertRaises(Left):
                with store.batch():
                    store.put(Fixed("y", 1))
                    raise Left()
            self.assertRaises(Busy, store.undo)
            self.assertEqual(len(store), 2)
        self.assertEqual([list(store.constraints()), number_of_undos(store)], [[1, 2], 2])

    def test_an_error_that_leaves_both(self):
        store = bits("x", "y")
        with self.assertRaises(Left):
            with store.batch():
                with store.batch():
                    store.put(Fixed("x", 1))
                store.put(Fixed("y", 1))
                with store.batch():
                    store.hide("x")
                    raise Left()
        self.assertEqual([len(store), store.order, number_of_undos(store)], [0, ("x", "y"), 1])

    def test_it_begins_when_the_block_is_entered(self):
        store = bits("x")
        batch = store.batch()
        store.put(Fixed("x", 1))
        store.undo()
        store.redo()
        with batch:
            store.hide("x")
            self.assertRaises(Busy, store.undo)
        store.undo()
        self.assertEqual([len(store), store.order], [1, ("x",)])
        inner = store.batch()
        with store.batch():
            with inner:
                store.hide()
            self.assertRaises(Busy, store.undo)
        store.undo()

    def test_two_stores(self):
        store, other = bits("x"), bits("x")
        with self.assertRaises(Left):
            with store.batch():
                store.hide("x")
                with other.batch():
                    other.put(Fixed("x", 1))
                other.undo()
                other.redo()
                other.declare("y", kind=BIT)
                raise Left()
        self.assertEqual([store.order, other.names, len(other), number_of_undos(other)], [("x",), ("x", "y"), 1, 3])

    def test_one_statement_for_two(self):
        store = bits("x")
        with store.batch(), store.batch():
            store.hide("x")
        self.assertEqual(number_of_undos(store), 2)


class Attempts(unittest.TestCase):
    def test_results(self):
        store = bits("x")
        self.assertEqual(store.attempt(lambda given: (given is store, given.put(Fixed("x", 1)))), (True, 1))
        self.assertIs(store.attempt(lambda given: given.hide("x")), None)
        self.assertEqual([number_of_undos(store), store.order], [3, ()])

    def test_errors(self):
        store = bits("x")

        def fail(given):
            given.put(Fixed("x", 1))
            given.declare("x1", kind=BIT)

        with self.assertRaises(BadName) as caught:
            store.attempt(fail)
        self.assertEqual([caught.exception.name, len(store), number_of_undos(store)], ["x1", 0, 1])
        self.assertRaises(Busy, store.attempt, Store.undo)
        self.assertEqual(number_of_undos(store), 1)

    def test_within_each_other(self):
        store = bits("x")

        def outer(given):
            given.put(Fixed("x", 0))
            return given.attempt(lambda inner: inner.put(Fixed("x", 1)))

        self.assertEqual(store.attempt(outer), 2)
        self.assertEqual([store.solution(), number_of_undos(store)], [None, 2])
        with store.batch():
            store.attempt(lambda given: given.take_back(1))
            store.take_back(2)
        store.undo()
        self.assertEqual(len(store), 2)


if __name__ == "__main__":
    unittest.main()
