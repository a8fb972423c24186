"""Promises [2], [7] to [10], interface keptbythree.sets: examples, edges, wrong inputs, copies."""

import copy
import inspect
import unittest
from itertools import islice

from keptbythree import sets
from keptbythree.errors import BadPlace, BadRow, EmptySet, NotClosed
from keptbythree.kinds import Kind
from keptbythree.rows import is_row
from keptbythree.sets import ClosedSet
from samples import (BIT, FOUR, HUGE, LATCH, NIM, ONE, THREE, all_rows, any_values, nested, odd_kind)

EVEN_ROWS = [(0, 0, 0), (0, 1, 1), (1, 0, 1), (1, 1, 0)]
EVEN = ClosedSet.of_rows([BIT, BIT, BIT], EVEN_ROWS)
NONE = ClosedSet.empty(BIT, BIT, BIT)
UNIT = ClosedSet.full()
VOID = ClosedSet.empty()


class Examples(unittest.TestCase):
    def test_certificate(self):
        self.assertEqual(EVEN.certificate(), [
            [[(0, (0, 0, 0)), (1, (1, 0, 1))]],
            [[(0, (0, 0, 0)), (1, (0, 1, 1))]],
            [[(0, (0, 0, 0))], [(1, (0, 1, 1))]]])

    def test_the_rest(self):
        self.assertEqual([EVEN.classes(0), EVEN.classes(1), EVEN.classes(2)], [[[0, 1]], [[0, 1]], [[0], [1]]])
        self.assertEqual(EVEN.walk((1, 1, 0)), ([(0, 1), (1, 1)], None, (1, 1, 0)))
        self.assertEqual(EVEN.walk((1, 1, 1)), ([(0, 1), (1, 1)], 2, (1, 1, 0)))
        self.assertEqual([EVEN.after((0, 1, 0)), EVEN.next_values(1, 0), EVEN.greatest()],
                         [(0, 1, 1), [1], (1, 1, 0)])
        self.assertEqual(ClosedSet.full(BIT, LATCH).first(3), [(0, 0), (0, 1), (1, 0)])


class Interface(unittest.TestCase):
    def test_the_class_stands_in_its_file(self):
        self.assertEqual(ClosedSet.__module__, "keptbythree.sets")
        self.assertIs(sets.ClosedSet, ClosedSet)

    def test_methods_and_properties_are_defined_in_the_class(self):
        for name in ("full", "empty", "of_rows", "certificate", "classes", "has", "walk", "least", "greatest",
                     "after", "before", "next_values", "rows", "first", "__eq__", "__repr__"):
            self.assertIn(name, vars(ClosedSet))
        for name in ("full", "empty", "of_rows"):
            self.assertIsInstance(vars(ClosedSet)[name], classmethod)
        for name in ("kinds", "width", "is_empty"):
            self.assertIsInstance(vars(ClosedSet)[name], property)
        self.assertTrue(inspect.isgeneratorfunction(ClosedSet.rows))

    def test_calls_by_name(self):
        closed = ClosedSet.of_rows(rows=EVEN_ROWS, kinds=[BIT, BIT, BIT])
        self.assertEqual(closed.classes(place=2), [[0], [1]])
        self.assertIs(closed.has(row=(0, 1, 1)), True)
        self.assertEqual(closed.walk(row=(0, 0, 0)), ([], None, (0, 0, 0)))
        self.assertEqual([closed.after(row=(0, 1, 1)), closed.before(row=(0, 1, 1))], [(1, 0, 1), (0, 0, 0)])
        self.assertEqual(list(closed.rows(start=(1, 0, 0))), [(1, 0, 1), (1, 1, 0)])
        self.assertEqual(closed.first(count=1), [(0, 0, 0)])


class Made(unittest.TestCase):
    def test_full(self):
        for kinds in ([ONE], [BIT], [BIT, THREE], [odd_kind(4, 1), LATCH, ONE], [FOUR, odd_kind(3, 2)]):
            closed = ClosedSet.full(*kinds)
            self.assertEqual(closed.first(1000), all_rows(kinds))
            self.assertEqual(closed, ClosedSet.of_rows(kinds, all_rows(kinds)))
            self.assertEqual([closed.classes(place) for place in range(len(kinds))],
                             [[list(range(kind.size))] for kind in kinds])

    def test_empty(self):
        for kinds in ([], [ONE], [BIT, THREE], [odd_kind(4, 1), LATCH]):
            closed = ClosedSet.empty(*kinds)
            self.assertEqual(closed.first(1000), [])
            self.assertEqual(closed, ClosedSet.of_rows(kinds, []))
            self.assertEqual(closed.classes(0) if kinds else [], [])
            self.assertIs(closed.certificate(), None)

    def test_of_rows_in_any_order_with_duplicates(self):
        for rows in (EVEN_ROWS[::-1], EVEN_ROWS * 3, tuple(EVEN_ROWS)):
            self.assertEqual(ClosedSet.of_rows((BIT, BIT, BIT), rows), EVEN)

    def test_of_rows_with_one_row(self):
        kinds = [odd_kind(4, 3), odd_kind(3, 3), ONE]
        closed = ClosedSet.of_rows(kinds, [(3, 1, 0), (3, 1, 0)])
        self.assertEqual(closed.certificate(), [[[(3, (3, 1, 0))]], [[(1, (3, 1, 0))]], [[(0, (3, 1, 0))]]])

    def test_of_rows_for_twelve_kinds(self):
        rows = [row + row for row in all_rows([BIT] * 6)]
        closed = ClosedSet.of_rows([BIT] * 12, rows[::-1])
        self.assertEqual(closed.first(100), rows)
        self.assertEqual([closed.classes(place) for place in range(12)], [[[0, 1]]] * 6 + [[[0], [1]]] * 6)

    def test_not_closed(self):
        for kinds, rows, x, y, z in [
                ([BIT, BIT], [(0, 0), (0, 1), (1, 0)], (0, 0), (0, 1), (1, 0)),
                ([BIT, BIT], [(1, 0), (0, 1), (0, 1), (0, 0)], (0, 0), (0, 1), (1, 0)),
                ([THREE], [(2,), (0,)], (0,), (2,), (0,)),
                ([LATCH, BIT], [(1, 1), (0, 0)], (0, 0), (1, 1), (0, 0))]:
            with self.assertRaises(NotClosed) as caught:
                ClosedSet.of_rows(kinds, rows)
            error = caught.exception
            self.assertEqual((error.x, error.y, error.z), (x, y, z))

    def test_wrong_rows(self):
        for kinds in ([], [ONE], [BIT, BIT]):
            for thing in any_values():
                if not is_row(kinds, thing):
                    with self.assertRaises(BadRow) as caught:
                        ClosedSet.of_rows(kinds, [(0,) * len(kinds), thing, None])
                    self.assertEqual(repr(caught.exception.row), repr(thing))

    def test_a_wrong_row_comes_before_what_is_not_closed(self):
        with self.assertRaises(BadRow) as caught:
            ClosedSet.of_rows([BIT, BIT], [(0, 0), (0, 1), (1, 0), (1, True), None])
        self.assertEqual(repr(caught.exception.row), "(1, True)")


class Properties(unittest.TestCase):
    def test_kinds_and_width(self):
        for kinds in ([], [ONE], [BIT, odd_kind(3, 1), BIT]):
            for closed in (ClosedSet.full(*kinds), ClosedSet.empty(*kinds), ClosedSet.of_rows(kinds, [])):
                self.assertEqual(closed.kinds, tuple(kinds))
                self.assertIs(closed.kinds.__class__, tuple)
                self.assertEqual(closed.width, len(kinds))

    def test_is_empty(self):
        self.assertEqual([one.is_empty for one in (EVEN, NONE, UNIT, VOID)], [False, True, False, True])

    def test_repr(self):
        self.assertEqual([repr(one) for one in (EVEN, NONE, UNIT, ClosedSet.full(*[FOUR] * 12))],
                         ["ClosedSet(width=3)", "ClosedSet(width=3)", "ClosedSet(width=0)", "ClosedSet(width=12)"])

    def test_equality(self):
        self.assertEqual(EVEN, ClosedSet.of_rows([Kind.cyclic(2)] * 3, EVEN_ROWS))
        self.assertNotEqual(EVEN, ClosedSet.full(BIT, BIT, BIT))
        self.assertNotEqual(EVEN, NONE)
        self.assertNotEqual(NONE, EVEN)
        self.assertNotEqual(UNIT, VOID)
        self.assertEqual([UNIT == ClosedSet.full(), VOID == ClosedSet.empty()], [True, True])

    def test_kinds_count_too(self):
        self.assertNotEqual(ClosedSet.full(BIT), ClosedSet.full(LATCH))
        self.assertNotEqual(ClosedSet.empty(BIT), ClosedSet.empty(LATCH))
        self.assertNotEqual(ClosedSet.empty(BIT), ClosedSet.empty(BIT, BIT))
        self.assertNotEqual(ClosedSet.of_rows([BIT], [(1,)]), ClosedSet.of_rows([THREE], [(1,)]))
        self.assertNotEqual(ClosedSet.of_rows([BIT], [(1,)]), ClosedSet.of_rows([LATCH], [(1,)]))

    def test_a_set_equals_nothing_else(self):
        for closed in (EVEN, NONE, UNIT, VOID):
            for thing in [*any_values(), BIT, EmptySet(), EVEN_ROWS, EVEN.certificate(), ClosedSet]:
                self.assertIs(closed == thing, False)
                self.assertIs(thing == closed, False)
                self.assertIs(closed != thing, True)


class Edges(unittest.TestCase):
    def test_certificates(self):
        self.assertIs(NONE.certificate(), None)
        self.assertIs(VOID.certificate(), None)
        self.assertEqual(UNIT.certificate(), [])
        self.assertEqual(ClosedSet.of_rows([], [()]).certificate(), [])
        self.assertEqual(ClosedSet.full(ONE, ONE).certificate(), [[[(0, (0, 0))]], [[(0, (0, 0))]]])

    def test_the_least_value_of_a_class_gives_the_least_row(self):
        closed = ClosedSet.of_rows([BIT, BIT, NIM], [(0, 0, 1), (0, 1, 0), (1, 0, 3), (1, 1, 2)])
        self.assertEqual(closed.certificate()[2],
                         [[(0, (0, 1, 0))], [(1, (0, 0, 1))], [(2, (1, 1, 2))], [(3, (1, 0, 3))]])

    def test_nothing_in_an_empty_set(self):
        for closed, row in ((NONE, (0, 1, 0)), (VOID, ())):
            self.assertEqual([closed.least(), closed.greatest(), closed.after(row), closed.before(row)], [None] * 4)
            self.assertEqual([list(closed.rows()), list(closed.rows(row)), closed.first(5)], [[], [], []])
            self.assertIs(closed.has(row), False)
        self.assertEqual([NONE.classes(0), NONE.classes(2), NONE.next_values(), NONE.next_values(1, 1)], [[]] * 4)

    def test_the_empty_row(self):
        self.assertEqual([UNIT.least(), UNIT.greatest(), UNIT.after(()), UNIT.before(())], [(), (), None, None])
        self.assertEqual([list(UNIT.rows()), list(UNIT.rows(())), UNIT.first(2), UNIT.first(0)], [[()], [()], [()], []])
        self.assertEqual(UNIT.walk(()), ([], None, ()))
        self.assertIs(UNIT.has(()), True)
        self.assertEqual([UNIT.width, UNIT.kinds, VOID.width, VOID.kinds], [0, (), 0, ()])

    def test_where_nothing_is_greater_or_less(self):
        self.assertEqual([EVEN.before((0, 0, 0)), EVEN.after((1, 1, 0)), EVEN.after((1, 1, 1))], [None, None, None])
        one = ClosedSet.of_rows([FOUR, FOUR], [(2, 1)])
        self.assertEqual([one.before((2, 1)), one.after((2, 1)), one.before((2, 0)), one.after((2, 2))], [None] * 4)
        self.assertEqual([one.before((3, 0)), one.after((1, 3)), one.before((2, 2)), one.after((2, 0))], [(2, 1)] * 4)
        self.assertEqual([one.least(), one.greatest()], [(2, 1), (2, 1)])

    def test_starts(self):
        for start in all_rows([BIT, BIT, BIT]):
            self.assertEqual(list(EVEN.rows(start)), [row for row in EVEN_ROWS if row >= start])
        self.assertEqual(list(EVEN.rows(None)), EVEN_ROWS)

    def test_first(self):
        self.assertEqual([EVEN.first(count) for count in range(7)],
                         [[], *[EVEN_ROWS[:count] for count in range(1, 5)], EVEN_ROWS, EVEN_ROWS])
        self.assertEqual(EVEN.first(HUGE), EVEN_ROWS)

    def test_prefixes_of_every_length(self):
        self.assertEqual([EVEN.next_values(), EVEN.next_values(1), EVEN.next_values(1, 1)], [[0, 1], [0, 1], [0]])
        one = ClosedSet.of_rows([FOUR, FOUR], [(2, 1)])
        self.assertEqual([one.next_values(), one.next_values(2), one.next_values(3)], [[2], [1], []])
        for prefix in ((1, 1, 0), (1, 1, 1), (0,) * 4, (0,) * 50):
            with self.assertRaises(BadPlace) as caught:
                EVEN.next_values(*prefix)
            self.assertEqual(caught.exception.place, len(prefix))

    def test_iterations_side_by_side_and_left_early(self):
        closed = ClosedSet.full(BIT, THREE)
        self.assertEqual([pair for pair in zip(closed.rows(), closed.rows((0, 2)))],
                         list(zip(all_rows([BIT, THREE]), all_rows([BIT, THREE])[2:])))
        one, other = closed.rows(), closed.rows()
        self.assertEqual([next(one), next(one), next(other), next(one)], [(0, 0), (0, 1), (0, 0), (0, 2)])
        one.close()
        self.assertEqual(list(other), all_rows([BIT, THREE])[1:])
        for row in closed.rows():
            if row == (0, 1):
                break
        self.assertEqual(list(closed.rows()), all_rows([BIT, THREE]))
        self.assertEqual([(x, y) for x in EVEN.rows() for y in EVEN.rows()],
                         [(x, y) for x in EVEN_ROWS for y in EVEN_ROWS])

    def test_rows_are_found_when_they_are_asked_for(self):
        closed = ClosedSet.full(*[FOUR] * 12)
        self.assertEqual(list(islice(closed.rows(), 3)), [(0,) * 12, (0,) * 11 + (1,), (0,) * 11 + (2,)])
        self.assertEqual(next(closed.rows((3,) * 12)), (3,) * 12)


class WrongInputs(unittest.TestCase):
    def test_has_any_value(self):
        for closed, members in ((EVEN, []), (UNIT, ["()"]), (ClosedSet.full(BIT), ["(0,)"]),
                                (ClosedSet.full(BIT, BIT), ["(0, 0)"]), (NONE, []), (VOID, []),
                                (ClosedSet.full(ONE, ONE), ["(0, 0)"])):
            for thing in any_values():
                self.assertIs(closed.has(thing), repr(thing) in members, thing)
        for thing in [(0, 0, True), (False, 0, 0), [0, 0, 0], (0, 0), (0, 0, 0, 0), (0, 1, -1), (2, 0, 0), (HUGE, 0, 0),
                      ((0,), 0, 0), "000", nested(3000, 0)]:
            self.assertIs(EVEN.has(thing), False)

    def test_what_is_no_row(self):
        for closed in (EVEN, NONE, UNIT, VOID, ClosedSet.full(ONE), ClosedSet.full(BIT, BIT)):
            for thing in [*any_values(), (0, 0, True), (0, 0, 2), [0, 0, 0]]:
                if not is_row(closed.kinds, thing):
                    for method in (closed.walk, closed.after, closed.before):
                        with self.assertRaises(BadRow) as caught:
                            method(thing)
                        self.assertEqual(repr(caught.exception.row), repr(thing))

    def test_no_walk_in_an_empty_set(self):
        for closed, row in ((NONE, (0, 0, 0)), (NONE, (1, 1, 1)), (VOID, ())):
            self.assertRaises(EmptySet, closed.walk, row)
        self.assertRaises(BadRow, NONE.walk, (0, 0))
        self.assertRaises(BadRow, VOID.walk, (0,))

    def test_what_is_no_place(self):
        for closed in (EVEN, NONE, UNIT, VOID, ClosedSet.full(ONE)):
            for thing in [*any_values(), closed.width, -1, -closed.width]:
                if repr(thing) not in [str(place) for place in range(closed.width)]:
                    with self.assertRaises(BadPlace) as caught:
                        closed.classes(thing)
                    self.assertEqual(repr(caught.exception.place), repr(thing))

    def test_what_is_no_beginning_of_a_row(self):
        for closed in (EVEN, NONE):
            for thing in any_values():
                if not is_row([BIT], (thing,)):
                    for prefix in ((thing,), (0, thing), (thing, 1)):
                        with self.assertRaises(BadRow) as caught:
                            closed.next_values(*prefix)
                        self.assertEqual(repr(caught.exception.row), repr(prefix))
        self.assertEqual(ClosedSet.full(BIT, THREE, ONE).next_values(1, 2), [0])
        self.assertRaises(BadRow, ClosedSet.full(BIT, THREE, ONE).next_values, 2, 1)

    def test_the_length_of_a_prefix_comes_before_its_values(self):
        for closed in (EVEN, NONE):
            for prefix in ((None, None, None), (2, 0, 0), ("x",) * 5):
                with self.assertRaises(BadPlace) as caught:
                    closed.next_values(*prefix)
                self.assertEqual(caught.exception.place, len(prefix))
        for closed in (UNIT, VOID):
            for prefix in ((), (0,), (None, True)):
                with self.assertRaises(BadPlace) as caught:
                    closed.next_values(*prefix)
                self.assertEqual(caught.exception.place, len(prefix))

    def test_after_an_error_all_is_as_before(self):
        closed = ClosedSet.of_rows([BIT, BIT, BIT], EVEN_ROWS)
        for call in (lambda: closed.walk(None), lambda: closed.after([]), lambda: closed.classes(3),
                     lambda: closed.next_values(5), lambda: closed.before((0, 0, True))):
            self.assertRaises((BadRow, BadPlace), call)
            self.assertEqual(closed, EVEN)


class Copies(unittest.TestCase):
    def test_arguments_are_not_changed(self):
        kinds, rows = [BIT, BIT, BIT], EVEN_ROWS[::-1] + EVEN_ROWS
        before = copy.deepcopy(rows)
        ClosedSet.of_rows(kinds, rows)
        self.assertEqual((kinds, rows), ([BIT, BIT, BIT], before))
        wrong = [(0, 0, 0), [0, [1]], (1, 0, 0)]
        self.assertRaises(BadRow, ClosedSet.of_rows, kinds, wrong)
        self.assertEqual((kinds, wrong), ([BIT, BIT, BIT], [(0, 0, 0), [0, [1]], (1, 0, 0)]))

    def test_later_changes_of_arguments_have_no_effect(self):
        kinds, rows = [BIT, BIT, BIT], list(EVEN_ROWS)
        closed = ClosedSet.of_rows(kinds, rows)
        kinds.append(THREE)
        kinds[0] = LATCH
        rows.clear()
        self.assertEqual(closed, EVEN)
        self.assertEqual([closed.kinds, closed.width, closed.first(9)], [(BIT, BIT, BIT), 3, EVEN_ROWS])

    def test_later_changes_of_results_have_no_effect(self):
        closed = ClosedSet.of_rows([BIT, BIT, BIT], EVEN_ROWS)
        calls = [closed.certificate, lambda: closed.certificate()[1], lambda: closed.certificate()[2][0],
                 lambda: closed.classes(2), lambda: closed.classes(0)[0], lambda: closed.walk((1, 1, 0))[0],
                 lambda: closed.next_values(1), lambda: closed.first(2), UNIT.certificate, lambda: UNIT.first(1),
                 lambda: NONE.classes(0), lambda: NONE.first(2), lambda: NONE.next_values()]
        for call in calls:
            before = copy.deepcopy(call())
            result = call()
            result.append("x")
            result.reverse()
            self.assertEqual(call(), before)
            self.assertIsNot(call(), call())
        self.assertEqual(closed, EVEN)

    def test_errors_have_copies(self):
        for call, field in ((EVEN.walk, "row"), (EVEN.after, "row"), (EVEN.before, "row"), (EVEN.classes, "place")):
            wrong = [0, [1]]
            with self.assertRaises((BadRow, BadPlace)) as caught:
                call(wrong)
            wrong[1].append(2)
            self.assertEqual(getattr(caught.exception, field), [0, [1]])
        wrong = [1]
        with self.assertRaises(BadRow) as caught:
            EVEN.next_values(wrong)
        wrong.append(2)
        self.assertEqual(caught.exception.row, ([1],))

    def test_equal_calls_have_equal_results(self):
        for call in (EVEN.certificate, EVEN.least, EVEN.greatest, lambda: EVEN.first(3), lambda: EVEN.walk((1, 1, 1)),
                     lambda: list(EVEN.rows()), lambda: EVEN.classes(1), lambda: EVEN.after((0, 0, 1))):
            self.assertEqual(call(), call())


if __name__ == "__main__":
    unittest.main()
