"""Promises [12] to [15], interface keptbythree.store: variables, constraints and questions."""

import copy
import inspect
import unittest

from keptbythree import store as module
from keptbythree.constraints import Constraint, Equal, Fixed, Member, Table
from keptbythree.errors import (BadConstraint, BadName, BadOrder, BadRow, DuplicateName, Full, KindsDiffer, NotClosed,
                                UnknownName, UnknownNumber, WrongState)
from keptbythree.sets import ClosedSet
from keptbythree.store import Store
from samples import BIT, FOUR, HUGE, LATCH, NIM, ONE, THREE, all_rows, any_values, odd_kind

EVEN = ClosedSet.of_rows([BIT, BIT, BIT], [(0, 0, 0), (0, 1, 1), (1, 0, 1), (1, 1, 0)])
LETTERS = "abcdefghijklmnopqrstuvwxyz"
# A number that no constraint gets, and a value of no kind.
OTHER = 99


def bits(*names):
    """A store with these variables of kind BIT."""
    store = Store()
    store.declare(*names, kind=BIT)
    return store


def seen(store):
    """All that a store shows without arguments."""
    return [store.names, store.order, store.constraints(), len(store), repr(store), store.closed_set().certificate(),
            store.closed_set().kinds, store.solution()]


class Test(unittest.TestCase):
    def fails(self, wanted, fields, store, call):
        """The call raises this error with these fields and changes nothing, also for undo and redo."""
        before = seen(store)
        with self.assertRaises(wanted) as caught:
            call()
        self.assertIs(type(caught.exception), wanted)
        self.assertEqual(repr(vars(caught.exception)), repr(fields))
        self.assertEqual(seen(store), before)
        # An action that changes nothing can be undone; so could the failed one if it counted.
        store.hide()
        store.undo()
        self.assertEqual(seen(store), before)


class Interface(Test):
    def test_all_that_is_listed(self):
        self.assertEqual(Store.__module__, module.__name__)
        for name in ("declare", "put", "take_back", "hide", "show", "order", "arrange", "names", "closed_set", "has",
                     "possible", "solution", "solutions", "reasons", "constraints", "undo", "redo", "batch", "attempt",
                     "__len__", "__repr__"):
            self.assertIn(name, vars(Store))
        self.assertIsInstance(vars(Store)["order"], property)
        self.assertIsInstance(vars(Store)["names"], property)

    def test_example(self):
        store = bits("x", "y", "z")
        self.assertEqual(store.put(Member("x", "y", "z", closed=EVEN)), 1)
        self.assertEqual(store.put(Equal("x", "y")), 2)
        self.assertEqual([store.solution(), store.possible("z"), store.reasons(z=1)],
                         [{"x": 0, "y": 0, "z": 0}, [0], (1, 2)])
        store.hide("y")
        self.assertEqual(store.closed_set().first(4), [(0, 0), (1, 0)])
        store.take_back(2)
        store.arrange(["z", "x"])
        self.assertEqual([store.has(1, 0), len(store), store.put(Fixed("z", 1)), store.solution(x=1)],
                         [True, 1, 3, {"x": 1, "y": 0, "z": 1}])
        self.assertEqual(repr(store), "Store(variables=3, constraints=2)")

    def test_by_name(self):
        store = Store()
        self.assertIs(store.declare("x", kind=BIT), None)
        self.assertEqual(store.put(constraint=Fixed("x", 1)), 1)
        self.assertEqual(store.possible(variable="x", x=1), [1])
        self.assertIs(store.arrange(order=["x"]), None)
        self.assertIs(store.take_back(number=1), None)
        self.assertEqual(store.attempt(function=len), 0)
        self.assertEqual([store.hide("x"), store.show("x"), store.undo(), store.redo()], [None] * 4)

    def test_an_empty_store(self):
        store = Store()
        self.assertEqual(seen(store), [(), (), {}, 0, "Store(variables=0, constraints=0)", [], (), {}])
        self.assertEqual([store.has(), store.has(0), list(store.solutions()), store.reasons()], [True, False, [{}], None])
        self.assertEqual(store.closed_set(), ClosedSet.full())


class Declare(Test):
    def test_variables(self):
        store = bits("x", "abc")
        store.declare("y", kind=THREE)
        store.declare(kind=FOUR)
        self.assertEqual([store.names, store.order], [("x", "abc", "y")] * 2)
        self.assertEqual(store.closed_set(), ClosedSet.full(BIT, BIT, THREE))
        store.hide("x")
        store.declare("z", "if", kind=ONE)
        self.assertEqual([store.names, store.order], [("x", "abc", "y", "z", "if"), ("abc", "y", "z", "if")])
        self.assertEqual(store.possible("if"), [0])

    def test_wrong_names(self):
        store = bits("x")
        for thing in [*any_values(), "abcd", "X", "x1", " ", "y ", "_"]:
            if thing != "x":
                self.fails(BadName, {"name": thing}, store, lambda: store.declare(thing, kind=BIT))
                self.fails(BadName, {"name": thing}, store, lambda: store.declare("y", thing, "x", None, kind=BIT))
        self.assertEqual(store.names, ("x",))

    def test_duplicates(self):
        store = bits("x", "y")
        self.fails(DuplicateName, {"name": "y"}, store, lambda: store.declare("z", "y", kind=BIT))
        self.fails(DuplicateName, {"name": "z"}, store, lambda: store.declare("z", "z", kind=BIT))
        self.fails(DuplicateName, {"name": "x"}, store, lambda: store.declare("x", None, kind=THREE))
        self.fails(BadName, {"name": None}, store, lambda: store.declare(None, "x", kind=THREE))
        store.hide("x")
        self.fails(DuplicateName, {"name": "x"}, store, lambda: store.declare("x", kind=BIT))

    def test_twelve_variables(self):
        store = bits(*LETTERS[:11])
        self.fails(Full, {"most": 12}, store, lambda: store.declare("x", "y", kind=BIT))
        store.declare("x", kind=BIT)
        self.assertEqual(len(store.names), 12)
        self.fails(Full, {"most": 12}, store, lambda: store.declare("y", kind=BIT))
        store.hide("a", "b")
        self.fails(Full, {"most": 12}, store, lambda: store.declare("y", kind=BIT))
        self.fails(DuplicateName, {"name": "x"}, store, lambda: store.declare("y", "x", kind=BIT))
        self.fails(BadName, {"name": ""}, store, lambda: store.declare("y", "", kind=BIT))
        self.fails(Full, {"most": 12}, Store(), lambda: Store().declare(*LETTERS[:13], kind=BIT))
        store.declare(kind=BIT)


class Put(Test):
    def test_numbers(self):
        store = bits("x", "y")
        self.assertEqual([store.put(Fixed("x", 0)), store.put(Fixed("y", 0)), store.put(Fixed("y", 0))], [1, 2, 3])
        store.take_back(3)
        store.take_back(1)
        self.assertEqual(store.put(Equal("x", "y")), 4)
        self.assertEqual(list(store.constraints()), [2, 4])
        store.undo()
        self.assertEqual(store.put(Fixed("x", 1)), 4)
        for _ in range(6):
            store.undo()
        self.assertEqual(store.put(Fixed("x", 1)), 1)

    def test_no_constraint(self):
        store = bits("x")
        for thing in [*any_values(), "x equals 0", Fixed, EVEN, store]:
            self.fails(BadConstraint, {}, store, lambda: store.put(thing))

    def test_unknown_names(self):
        store = bits("x")
        self.fails(UnknownName, {"name": "y"}, store, lambda: store.put(Fixed("y", OTHER)))
        self.fails(UnknownName, {"name": "y"}, store, lambda: store.put(Equal("x", "y", "z")))
        self.fails(UnknownName, {"name": "z"}, store, lambda: store.put(Table("x", "z", "y", rows=[(9,)])))
        self.fails(UnknownName, {"name": "y"}, store, lambda: store.put(Member("y", closed=EVEN)))

    def test_tables(self):
        store = bits("x", "y")
        store.declare("z", kind=THREE)
        for rows, wrong in (([(0, 0), (0,)], (0,)), ([(0, 0), (0, 2), (0, 1, 0)], (0, 2)), ([(2, 0)], (2, 0)),
                            ([(0, 1), (1, 0), (0, 0), (0, 9)], (0, 9))):
            self.fails(BadRow, {"row": wrong}, store, lambda: store.put(Table("x", "y", rows=rows)))
        self.fails(BadRow, {"row": (2, 0)}, store, lambda: store.put(Table("x", "z", rows=[(0, 2), (2, 0)])))
        self.fails(NotClosed, {"x": (0, 0), "y": (0, 1), "z": (1, 0)}, store,
                   lambda: store.put(Table("x", "y", rows=[(1, 0), (0, 1), (0, 0)])))
        self.assertEqual(store.put(Table("z", "x", rows=[(2, 1), (2, 1)])), 1)
        self.assertEqual(store.solution(), {"x": 1, "y": 0, "z": 2})

    def test_fixed(self):
        store = bits("x")
        store.declare("y", kind=THREE)
        self.fails(BadRow, {"row": (2,)}, store, lambda: store.put(Fixed("x", 2)))
        self.fails(BadRow, {"row": (9,)}, store, lambda: store.put(Fixed("y", 9)))
        self.assertEqual([store.put(Fixed("y", 2)), store.possible("y")], [1, [2]])

    def test_equal(self):
        store = bits("x", "y")
        store.declare("u", "v", kind=LATCH)
        store.declare("w", kind=THREE)
        for names, place in ((("x", "u"), 1), (("x", "y", "v", "w"), 2), (("w", "w", "w", "x"), 3)):
            self.fails(KindsDiffer, {"place": 0, "other": place}, store, lambda: store.put(Equal(*names)))
        self.assertEqual([store.put(Equal("u", "v", "u")), store.possible("v", u=1)], [1, [1]])

    def test_members(self):
        store = bits("x", "y", "z")
        store.declare("w", kind=THREE)
        for names, place in ((("x", "y"), 2), (("x", "y", "z", "x"), 3), (("x", "w", "y"), 1), (("w", "y"), 0)):
            self.fails(KindsDiffer, {"place": place, "other": place}, store,
                       lambda: store.put(Member(*names, closed=EVEN)))
        self.fails(KindsDiffer, {"place": 0, "other": 0}, store, lambda: store.put(Member("x", closed=ClosedSet.full())))
        self.assertEqual(store.put(Member("z", "x", "y", closed=EVEN)), 1)
        self.assertEqual(store.closed_set().first(4), [(0, 0, 0, 0), (0, 0, 0, 1), (0, 0, 0, 2), (0, 1, 1, 0)])

    def test_ten_constraints(self):
        store = bits("x", "y")
        for number in range(1, 11):
            self.assertEqual(store.put(Fixed("x", 0)), number)
        for constraint in (Fixed("y", 0), Equal("x", "y"), Table("x", rows=[]), Member("x", closed=ClosedSet.full(BIT))):
            self.fails(Full, {"most": 10}, store, lambda: store.put(constraint))
        self.fails(BadConstraint, {}, store, lambda: store.put(None))
        self.fails(UnknownName, {"name": "z"}, store, lambda: store.put(Fixed("z", 0)))
        self.fails(BadRow, {"row": (2,)}, store, lambda: store.put(Fixed("x", 2)))
        store.take_back(4)
        self.assertEqual(store.put(Fixed("y", 1)), 11)
        self.fails(Full, {"most": 10}, store, lambda: store.put(Fixed("y", 0)))

    def test_the_same_name_at_several_places(self):
        store = bits("x", "y")
        store.put(Table("x", "x", "y", rows=[(0, 0, 1), (0, 1, 1), (1, 0, 1), (1, 1, 1)]))
        self.assertEqual(list(store.solutions()), [{"x": 0, "y": 1}, {"x": 1, "y": 1}])
        store.put(Member("x", "y", "x", closed=EVEN))
        self.assertEqual(list(store.solutions()), [])
        store.take_back(1)
        self.assertEqual(list(store.solutions()), [{"x": 0, "y": 0}, {"x": 1, "y": 0}])
        store.put(Table("y", "y", rows=[(0, 1)]))
        self.assertEqual([store.solution(), store.reasons()], [None, (3,)])

    def test_constraints_that_no_values_satisfy(self):
        for constraint in (Table("x", rows=[]), Member("x", closed=ClosedSet.empty(BIT)),
                           Member("x", "y", closed=ClosedSet.empty(BIT, BIT))):
            store = bits("x", "y")
            store.put(constraint)
            self.assertEqual([store.solution(), store.possible("y"), store.reasons(y=1), store.reasons(),
                              store.closed_set()], [None, [], (1,), (1,), ClosedSet.empty(BIT, BIT)])
            store.hide("x", "y")
            self.assertEqual([store.closed_set(), store.has()], [ClosedSet.empty(), False])

    def test_take_back(self):
        store = bits("x", "y")
        store.put(Fixed("x", 1))
        store.put(Fixed("y", 1))
        for thing in any_values():
            if type(thing) is not int or thing not in (1, 2):
                self.fails(UnknownNumber, {"number": thing}, store, lambda: store.take_back(thing))
        store.take_back(1)
        self.fails(UnknownNumber, {"number": 1}, store, lambda: store.take_back(1))
        self.assertEqual(store.solution(), {"x": 0, "y": 1})


class Visible(Test):
    def test_hide_and_show(self):
        store = bits("x", "y", "z")
        store.hide("z", "x")
        self.assertEqual([store.order, store.names], [("y",), ("x", "y", "z")])
        store.show("z", "x")
        self.assertEqual(store.order, ("y", "z", "x"))
        store.hide("y")
        store.show("y")
        self.assertEqual(store.order, ("z", "x", "y"))
        store.hide()
        store.show()
        self.assertEqual(store.order, ("z", "x", "y"))

    def test_wrong_names(self):
        store = bits("x", "y", "z")
        store.hide("z")
        for call, right, wrong in ((store.hide, "x", "z"), (store.show, "z", "x")):
            for thing in [*any_values(), "a", "xy"]:
                if thing != "x":
                    self.fails(UnknownName, {"name": thing}, store, lambda: call(thing))
                    self.fails(UnknownName, {"name": thing}, store, lambda: call(right, thing, wrong))
            self.fails(WrongState, {"name": wrong}, store, lambda: call(wrong))
            self.fails(WrongState, {"name": wrong}, store, lambda: call(right, wrong, None))
            self.fails(WrongState, {"name": right}, store, lambda: call(right, right))

    def test_order(self):
        store = bits("x", "y", "z")
        store.order = ["z", "x", "y"]
        self.assertEqual(store.order, ("z", "x", "y"))
        store.arrange(("y", "z", "x"))
        self.assertEqual([store.order, store.names], [("y", "z", "x"), ("x", "y", "z")])
        store.hide("z")
        store.order = ("x", "y")
        self.assertEqual(store.order, ("x", "y"))
        store.hide("x", "y")
        store.order = []
        store.arrange(())
        self.assertEqual(store.order, ())

    def test_wrong_orders(self):
        store = bits("x", "y", "z")
        store.hide("z")
        for thing in [*any_values(), ["x"], ["x", "y", "z"], ["x", "x"], ["x", "y", "y"], ["y", "z"], ("x", ["y"]),
                      ["x", None], ["x", 1], "xy", {"x": 0, "y": 1}, ["x", "yy"], [["x", "y"]], ["x", True]]:
            self.fails(BadOrder, {}, store, lambda: store.arrange(thing))
            self.fails(BadOrder, {}, store, lambda: setattr(store, "order", thing))
        self.assertRaises(BadOrder, Store().arrange, ["x"])

    def test_the_set_follows_the_visible_variables(self):
        store = bits("x", "y", "z")
        store.put(Member("x", "y", "z", closed=EVEN))
        store.put(Fixed("y", 1))
        self.assertEqual(store.closed_set().first(9), [(0, 1, 1), (1, 1, 0)])
        store.hide("y")
        self.assertEqual(store.closed_set().first(9), [(0, 1), (1, 0)])
        store.hide("x")
        self.assertEqual(store.closed_set(), ClosedSet.full(BIT))
        store.show("y", "x")
        self.assertEqual([store.order, store.closed_set().first(9)], [("z", "y", "x"), [(0, 1, 1), (1, 1, 0)]])
        store.hide("x", "y", "z")
        self.assertEqual([store.closed_set(), store.has(), store.has(0)], [ClosedSet.full(), True, False])

    def test_hidden_variables_do_not_change_what_others_may_be(self):
        store = bits("x", "y", "z")
        store.put(Member("x", "y", "z", closed=EVEN))
        store.put(Equal("x", "y"))
        before = [store.possible(name) for name in "xyz"] + [list(store.solutions()), store.reasons(z=1)]
        store.hide("y", "z")
        self.assertEqual([store.possible(name) for name in "xyz"] + [list(store.solutions()), store.reasons(z=1)], before)


class Questions(Test):
    def setUp(self):
        self.store = bits("x", "y", "z")
        self.store.declare("w", kind=THREE)
        self.store.put(Member("x", "y", "z", closed=EVEN))
        self.store.put(Table("w", "x", rows=[(0, 1), (1, 1), (2, 1)]))
        self.store.put(Equal("x", "y"))

    def test_has(self):
        store = self.store
        self.assertEqual([store.has(1, 1, 0, 2), store.has(1, 1, 0, 3), store.has(0, 0, 0, 0), store.has(1, 1, 0)],
                         [True, False, False, False])
        for thing in any_values():
            if type(thing) is not int:
                self.assertEqual([store.has(thing), store.has(1, 1, 0, thing), store.has(thing, 1, 0, 0),
                                  store.has(True, 1, 0, 0), store.has((1, 1, 0, 0))], [False] * 5)
        self.assertEqual([row for row in all_rows([BIT, BIT, BIT, THREE]) if store.has(*row)],
                         [(1, 1, 0, 0), (1, 1, 0, 1), (1, 1, 0, 2)])

    def test_possible(self):
        store = self.store
        self.assertEqual([store.possible(name) for name in ("x", "y", "z", "w")], [[1], [1], [0], [0, 1, 2]])
        self.assertEqual([store.possible("w", w=2), store.possible("w", x=1, z=0), store.possible("w", x=0)],
                         [[2], [0, 1, 2], []])
        store.possible("w").append(5)
        self.assertEqual(store.possible("w"), [0, 1, 2])

    def test_solutions(self):
        store = self.store
        self.assertEqual(store.solution(), {"x": 1, "y": 1, "z": 0, "w": 0})
        self.assertEqual(list(store.solution()), ["x", "y", "z", "w"])
        self.assertEqual([store.solution(w=2), store.solution(z=1)], [{"x": 1, "y": 1, "z": 0, "w": 2}, None])
        self.assertEqual([found["w"] for found in store.solutions()], [0, 1, 2])
        self.assertEqual([list(store.solutions(w=1, y=1)), list(store.solutions(y=0))],
                         [[{"x": 1, "y": 1, "z": 0, "w": 1}], []])
        store.solution()["x"] = 5
        next(store.solutions()).clear()
        self.assertEqual(store.solution(), {"x": 1, "y": 1, "z": 0, "w": 0})
        self.assertEqual([list(found) for found in store.solutions()], [["x", "y", "z", "w"]] * 3)

    def test_reasons(self):
        store = self.store
        self.assertEqual([store.reasons(), store.reasons(w=1), store.reasons(x=1, y=1)], [None] * 3)
        self.assertEqual([store.reasons(x=0), store.reasons(y=0), store.reasons(z=1), store.reasons(x=1, y=0)],
                         [(2,), (2, 3), (1, 3), (3,)])
        # With values for all variables one reason is enough; the greatest numbers are left out first.
        self.assertEqual([store.reasons(x=0, y=0, z=1), store.reasons(x=0, y=0, z=1, w=0)], [(1,)] * 2)
        self.assertEqual(store.reasons(x=0, y=1, z=1), (2,))
        store.put(Fixed("w", 0))
        store.put(Fixed("w", 1))
        self.assertEqual([store.reasons(), store.reasons(w=0), store.reasons(w=2)], [(4, 5), (5,), (4,)])
        store.take_back(2)
        self.assertEqual(store.reasons(x=0), (4, 5))

    def test_keywords(self):
        store = self.store
        calls = [lambda **fixed: store.possible("x", **fixed), store.solution, store.reasons,
                 lambda **fixed: next(store.solutions(**fixed))]
        for call in calls:
            self.fails(UnknownName, {"name": "u"}, store, lambda: call(u=0))
            self.fails(UnknownName, {"name": "u"}, store, lambda: call(x=1, u=None, w=5))
            self.fails(UnknownName, {"name": "no"}, store, lambda: call(no=0, x=None))
            self.fails(BadRow, {"row": (2,)}, store, lambda: call(w=2, x=2, u=0))
            for thing in any_values():
                if type(thing) is not int or not 0 <= thing < 3:
                    self.fails(BadRow, {"row": (thing,)}, store, lambda: call(w=thing))
                    self.fails(BadRow, {"row": (thing,)}, store, lambda: call(x=0, w=thing, u=0))

    def test_the_variable_comes_first(self):
        store = self.store
        for thing in [*any_values(), "u", "xy", "X"]:
            if thing != "x":
                self.fails(UnknownName, {"name": thing}, store, lambda: store.possible(thing))
                self.fails(UnknownName, {"name": thing}, store, lambda: store.possible(thing, x=None, u=0))
        self.fails(BadRow, {"row": (None,)}, store, lambda: store.possible("x", x=None))

    def test_errors_have_copies(self):
        wrong = [0, [1]]
        for call in (lambda: self.store.solution(x=wrong), lambda: self.store.possible(wrong),
                     lambda: self.store.hide(wrong), lambda: self.store.take_back(wrong),
                     lambda: self.store.declare(wrong, kind=BIT)):
            before = copy.deepcopy(wrong)
            with self.assertRaises((BadRow, UnknownName, UnknownNumber, BadName)) as caught:
                call()
            self.assertEqual(wrong, before)
            fields = list(vars(caught.exception).values())
            wrong[1].append(2)
            self.assertIn(fields[0], [before, (before,)])

    def test_constraints(self):
        store = self.store
        found = store.constraints()
        self.assertEqual(list(found), [1, 2, 3])
        self.assertTrue(all(isinstance(constraint, Constraint) for constraint in found.values()))
        equal = Equal("x", "z")
        self.assertEqual(store.put(equal), 4)
        self.assertIs(store.constraints()[4], equal)
        store.take_back(2)
        self.assertEqual([list(store.constraints()), len(store)], [[1, 3, 4], 3])
        store.constraints().clear()
        found[9] = None
        self.assertEqual([list(store.constraints()), len(store)], [[1, 3, 4], 3])

    def test_equal_calls(self):
        store = self.store
        for call in (store.closed_set, store.solution, lambda: list(store.solutions()), lambda: store.reasons(z=1),
                     lambda: store.possible("w"), lambda: store.names):
            self.assertEqual(call(), call())

    def test_the_set_is_not_changed_later(self):
        store = self.store
        closed = store.closed_set()
        before = closed.certificate()
        closed.certificate().clear()
        store.put(Fixed("w", 1))
        store.hide("x")
        self.assertEqual(closed.certificate(), before)
        self.assertEqual(store.closed_set().first(3), [(1, 0, 1)])
        store.undo()
        store.undo()
        self.assertEqual(store.closed_set(), closed)


class Iterations(Test):
    def test_a_generator(self):
        store = bits("x", "y")
        self.assertTrue(inspect.isgenerator(store.solutions()))
        self.assertTrue(inspect.isgenerator(store.solutions(x=1)))

    def test_left_early(self):
        store = bits("x", "y")
        for found in store.solutions():
            break
        self.assertEqual(found, {"x": 0, "y": 0})
        self.assertEqual(len(list(store.solutions())), 4)

    def test_changes_have_no_effect_after_the_first_one(self):
        store = bits("x", "y")
        found = store.solutions()
        first = next(found)
        store.put(Fixed("x", 1))
        store.declare("z", kind=THREE)
        store.hide("x")
        rest = list(found)
        self.assertEqual([first, *rest], [{"x": a, "y": b} for a in range(2) for b in range(2)])
        found = store.solutions(y=1)
        next(found)
        store.undo()
        store.undo()
        store.undo()
        self.assertEqual(list(found), [{"x": 1, "y": 1, "z": 1}, {"x": 1, "y": 1, "z": 2}])

    def test_changes_before_the_first_one_count(self):
        store = bits("x", "y")
        found = store.solutions(y=1)
        store.put(Fixed("x", 1))
        store.declare("z", kind=ONE)
        self.assertEqual(list(found), [{"x": 1, "y": 1, "z": 0}])
        found = store.solutions(z=0)
        store.undo()
        with self.assertRaises(UnknownName) as caught:
            next(found)
        self.assertEqual(caught.exception.name, "z")

    def test_errors_come_with_the_first_one(self):
        store = bits("x")
        found, other = store.solutions(y=0), store.solutions(x=2)
        with self.assertRaises(BadRow) as caught:
            next(other)
        self.assertEqual(caught.exception.row, (2,))
        store.declare("y", kind=BIT)
        self.assertEqual(list(found), [{"x": 0, "y": 0}, {"x": 1, "y": 0}])

    def test_changes_within_a_loop(self):
        store = bits("x", "y")
        seen_rows = []
        for found in store.solutions():
            seen_rows.append(tuple(found.values()))
            store.put(Fixed("x", 0)) if len(store) == 0 else store.take_back(list(store.constraints())[0])
        self.assertEqual(seen_rows, all_rows([BIT, BIT]))

    def test_several_at_once(self):
        store = bits("x", "y")
        store.declare("z", kind=odd_kind(3, 5))
        one, other = store.solutions(), store.solutions()
        pairs = list(zip(one, other))
        self.assertEqual(len(pairs), 12)
        self.assertTrue(all(a == b and a is not b for a, b in pairs))


class Kinds(Test):
    def test_kinds_of_all_sorts(self):
        store = Store()
        store.declare("x", "y", kind=NIM)
        store.declare("u", kind=FOUR)
        store.declare("v", kind=ONE)
        store.declare("o", "p", kind=odd_kind(4, 1))
        store.put(Equal("o", "p"))
        store.put(Table("x", "v", rows=[(0, 0), (1, 0), (2, 0), (3, 0)]))
        store.put(Table("x", "y", rows=[(value, 3 - value) for value in range(4)]))
        store.put(Table("u", "u", rows=[(0, 0), (2, 2)]))
        self.assertEqual([store.possible("y", x=1), store.possible("u"), store.possible("p", o=3)], [[2], [0, 2], [3]])
        self.assertEqual(len(list(store.solutions())), 4 * 2 * 4)
        self.assertEqual(store.reasons(o=1, p=2), (1,))
        self.assertRaises(NotClosed, store.put, Table("x", "u", rows=[(value, value) for value in range(4)]))
        self.assertEqual(HUGE in store.possible("x"), False)


if __name__ == "__main__":
    unittest.main()
