"""Promises [2] and [3], interface keptbythree.restrict."""

import copy
import unittest

from keptbythree import restrict
from keptbythree.errors import BadPlace, BadRow, KindsDiffer, NotClosed
from keptbythree.kinds import Kind
from keptbythree.restrict import equated, fixed, restricted
from keptbythree.rows import is_row
from keptbythree.sets import ClosedSet
from samples import BIT, FOUR, LATCH, NIM, ONE, THREE, all_rows, any_values, odd_kind, wrong_places

EVEN_ROWS = [(0, 0, 0), (0, 1, 1), (1, 0, 1), (1, 1, 0)]
EVEN = ClosedSet.of_rows([BIT, BIT, BIT], EVEN_ROWS)
NONE = ClosedSet.empty(BIT, BIT, BIT)
SUMS = [(0, 0, 0), (0, 1, 1), (1, 0, 2), (1, 1, 3)]


class Interface(unittest.TestCase):
    def test_the_functions_stand_in_their_file(self):
        for name in ("restricted", "fixed", "equated"):
            self.assertEqual(getattr(restrict, name).__module__, "keptbythree.restrict")

    def test_by_name(self):
        self.assertEqual(restricted(rows=[(1, 1)], places=[0, 2], closed=EVEN).first(4), [(1, 0, 1)])
        self.assertEqual(fixed(value=1, place=2, closed=EVEN).first(4), [(0, 1, 1), (1, 0, 1)])
        self.assertEqual(equated(other=2, place=0, closed=EVEN).first(4), [(0, 0, 0), (1, 0, 1)])


class Restricted(unittest.TestCase):
    def test_one_place(self):
        closed = ClosedSet.full(FOUR, BIT)
        self.assertEqual(restricted(closed, [0], [(3,), (1,)]).first(9), [(1, 0), (1, 1), (3, 0), (3, 1)])
        self.assertEqual(restricted(closed, (0,), [(0,), (1,), (2,), (3,)]), closed)

    def test_two_and_three_places(self):
        self.assertEqual(restricted(EVEN, [2, 0], [(1, 0), (0, 1)]).first(9), [(0, 1, 1), (1, 1, 0)])
        self.assertEqual(restricted(EVEN, [2, 1, 0], [(1, 1, 0), (0, 0, 0)]).first(9), [(0, 0, 0), (0, 1, 1)])
        self.assertEqual(restricted(EVEN, [0, 1, 2], EVEN_ROWS), EVEN)

    def test_the_same_place_twice(self):
        self.assertEqual(restricted(EVEN, [1, 1], [(0, 0), (1, 1)]), EVEN)
        self.assertEqual(restricted(EVEN, [1, 1], [(1, 1)]), fixed(EVEN, 1, 1))
        self.assertEqual(restricted(EVEN, [1, 1], [(0, 1), (1, 0)]), NONE)
        self.assertEqual(restricted(EVEN, [1, 1], [(0, 1)]), NONE)
        self.assertEqual(restricted(EVEN, [2, 0, 2], [(1, 0, 1), (0, 0, 1)]).first(9), [(0, 1, 1)])
        self.assertEqual(restricted(EVEN, (0, 0, 0), [(1, 1, 1)]).first(9), EVEN_ROWS[2:])

    def test_no_rows(self):
        self.assertEqual(restricted(EVEN, [0], []), NONE)
        self.assertEqual(restricted(EVEN, [0, 1, 2], []), NONE)
        self.assertEqual(restricted(NONE, [0, 1], [(0, 0)]), NONE)

    def test_nothing_is_left(self):
        closed = restricted(EVEN, [0, 1, 2], [(1, 1, 1)])
        self.assertEqual([closed, closed.certificate(), closed.kinds], [NONE, None, (BIT, BIT, BIT)])

    def test_values_that_no_row_of_the_certificate_had(self):
        closed = restricted(ClosedSet.full(BIT, BIT, NIM), [0, 1, 2], SUMS[::-1])
        self.assertEqual(closed.first(9), SUMS)
        self.assertEqual(closed.classes(2), [[0], [1], [2], [3]])
        self.assertEqual(closed, ClosedSet.of_rows([BIT, BIT, NIM], SUMS))

    def test_sizes_one_and_kinds_from_no_group(self):
        odd = odd_kind(3, 5)
        closed = ClosedSet.full(ONE, odd, LATCH)
        self.assertEqual(restricted(closed, [0, 1], [(0, 2)]).first(9), [(0, 2, 0), (0, 2, 1)])
        self.assertEqual(restricted(closed, [0], [(0,)]), closed)
        self.assertEqual(restricted(closed, [0], []), ClosedSet.empty(ONE, odd, LATCH))

    def test_sixty_four_rows(self):
        closed = ClosedSet.full(FOUR, FOUR, FOUR, BIT)
        self.assertEqual(restricted(closed, [2, 0, 1], all_rows([FOUR] * 3)[::-1]), closed)


class RestrictedErrors(unittest.TestCase):
    def test_places(self):
        for closed in (EVEN, NONE, ClosedSet.full(), ClosedSet.empty()):
            for thing in wrong_places(closed.width):
                for places in ([thing], (thing, "x"), [thing, 0, None]):
                    with self.assertRaises(BadPlace) as caught:
                        restricted(closed, places, [None])
                    self.assertEqual(repr(caught.exception.place), repr(thing))
        with self.assertRaises(BadPlace) as caught:
            restricted(EVEN, [0, 2, 3], [(0, 0, 0)])
        self.assertEqual(caught.exception.place, 3)

    def test_rows(self):
        for closed in (EVEN, NONE):
            for thing in any_values():
                if not is_row([BIT, BIT], thing):
                    with self.assertRaises(BadRow) as caught:
                        restricted(closed, [2, 0], [(0, 0), (0, 1), (1, 0), thing, None])
                    self.assertEqual(repr(caught.exception.row), repr(thing))

    def test_rows_are_of_the_kinds_of_the_places(self):
        closed = ClosedSet.full(BIT, THREE, FOUR)
        self.assertEqual(restricted(closed, [2, 0], [(3, 1)]).first(9), [(1, 0, 3), (1, 1, 3), (1, 2, 3)])
        for places, row in (([0, 2], (3, 1)), ([1], (3,)), ([1, 1], (2, 3)), ([2, 1, 0], (3, 2, 2))):
            with self.assertRaises(BadRow) as caught:
                restricted(closed, places, [row])
            self.assertEqual(caught.exception.row, row)

    def test_not_closed(self):
        for closed in (EVEN, NONE):
            with self.assertRaises(NotClosed) as caught:
                restricted(closed, [0, 2], [(1, 0), (0, 1), (0, 0), (1, 0)])
            error = caught.exception
            self.assertEqual((error.x, error.y, error.z), ((0, 0), (0, 1), (1, 0)))
        # The combinations of the kinds of the places count, even if no row has such values.
        with self.assertRaises(NotClosed) as caught:
            restricted(ClosedSet.full(LATCH, BIT), [0, 0], [(0, 1), (1, 1), (1, 0)])
        error = caught.exception
        self.assertEqual((error.x, error.y, error.z), ((0, 1), (1, 1), (1, 0)))

    def test_which_comes_first(self):
        self.assertRaises(BadPlace, restricted, EVEN, [0, 5], [None, (0, 0)])
        self.assertRaises(BadRow, restricted, EVEN, [0, 1], [(0, 0), (0, 1), (1, 0), (True, 1)])


class Fixed(unittest.TestCase):
    def test_values(self):
        self.assertEqual([fixed(EVEN, 1, 0).first(9), fixed(EVEN, 1, 1).first(9)],
                         [[(0, 0, 0), (1, 0, 1)], [(0, 1, 1), (1, 1, 0)]])
        self.assertEqual(fixed(fixed(EVEN, 1, 1), 1, 1), fixed(EVEN, 1, 1))
        self.assertEqual(fixed(fixed(EVEN, 1, 1), 1, 0), NONE)
        self.assertEqual(fixed(NONE, 1, 0), NONE)
        self.assertEqual(fixed(ClosedSet.full(ONE), 0, 0), ClosedSet.full(ONE))

    def test_a_value_that_does_not_occur(self):
        closed = ClosedSet.of_rows([FOUR, BIT], [(0, 1), (2, 1)])
        self.assertEqual([fixed(closed, 0, 1), fixed(closed, 1, 0)], [ClosedSet.empty(FOUR, BIT)] * 2)
        self.assertEqual(fixed(closed, 1, 1), closed)

    def test_places(self):
        for closed in (EVEN, NONE, ClosedSet.full(), ClosedSet.empty()):
            for thing in wrong_places(closed.width):
                with self.assertRaises(BadPlace) as caught:
                    fixed(closed, thing, None)
                self.assertEqual(repr(caught.exception.place), repr(thing))

    def test_wrong_values(self):
        for closed in (EVEN, NONE):
            for thing in any_values():
                if not is_row([BIT], (thing,)):
                    with self.assertRaises(BadRow) as caught:
                        fixed(closed, 2, thing)
                    self.assertEqual(repr(caught.exception.row), repr((thing,)))
        self.assertEqual(fixed(ClosedSet.full(BIT, THREE), 1, 2).first(9), [(0, 2), (1, 2)])
        self.assertRaises(BadRow, fixed, ClosedSet.full(BIT, THREE), 0, 2)
        self.assertRaises(BadPlace, fixed, EVEN, 3, 2)


class Equated(unittest.TestCase):
    def test_values(self):
        self.assertEqual(equated(EVEN, 0, 1).first(9), [(0, 0, 0), (1, 1, 0)])
        self.assertEqual(equated(EVEN, 2, 0), equated(EVEN, 0, 2))
        self.assertEqual(equated(NONE, 0, 2), NONE)
        self.assertEqual(equated(ClosedSet.of_rows([FOUR, FOUR], [(0, 1), (2, 3)]), 0, 1), ClosedSet.empty(FOUR, FOUR))

    def test_the_same_place_twice(self):
        for place in range(3):
            self.assertEqual(equated(EVEN, place, place), EVEN)
            self.assertEqual(equated(NONE, place, place), NONE)

    def test_equal_kinds_that_are_not_the_same_object(self):
        closed = ClosedSet.full(Kind.cyclic(3), Kind.cyclic(3))
        self.assertEqual(equated(closed, 0, 1).first(9), [(0, 0), (1, 1), (2, 2)])

    def test_kinds_from_no_group(self):
        odd = odd_kind(4, 9)
        closed = equated(ClosedSet.full(odd, ONE, odd), 2, 0)
        self.assertEqual(closed.first(9), [(value, 0, value) for value in range(4)])

    def test_places(self):
        for closed in (EVEN, NONE, ClosedSet.full(), ClosedSet.empty()):
            for thing in wrong_places(closed.width):
                # Without places 0 is none either.
                pairs = [(thing, "x"), (thing, 0)] + ([(0, thing)] if closed.width else [])
                for place, other in pairs:
                    with self.assertRaises(BadPlace) as caught:
                        equated(closed, place, other)
                    self.assertEqual(repr(caught.exception.place), repr(thing))

    def test_kinds_that_differ(self):
        for closed in (ClosedSet.full(BIT, LATCH, THREE), ClosedSet.empty(BIT, LATCH, THREE)):
            for place, other in ((0, 1), (1, 0), (0, 2), (2, 1)):
                with self.assertRaises(KindsDiffer) as caught:
                    equated(closed, place, other)
                self.assertEqual((caught.exception.place, caught.exception.other), (place, other))
            self.assertRaises(BadPlace, equated, closed, 0, 3)


class Calls(unittest.TestCase):
    def test_arguments_are_not_changed(self):
        before = EVEN.certificate()
        places, rows = [2, 0], [(1, 1), (0, 0), (1, 1)]
        result = restricted(EVEN, places, rows)
        self.assertEqual((places, rows), ([2, 0], [(1, 1), (0, 0), (1, 1)]))
        fixed(EVEN, 0, 1)
        equated(EVEN, 0, 1)
        self.assertEqual(EVEN.certificate(), before)
        kept = result.certificate()
        places.clear()
        rows.clear()
        self.assertEqual(result.certificate(), kept)

    def test_wrong_arguments_are_not_changed_and_errors_have_copies(self):
        for call, wrong, field in (
                (lambda thing: restricted(EVEN, [0, thing], [(0, 0)]), [0, [1]], "place"),
                (lambda thing: restricted(EVEN, [0, 1], [(0, 0), thing]), [0, [1]], "row"),
                (lambda thing: fixed(EVEN, thing, 0), [0, [1]], "place"),
                (lambda thing: equated(EVEN, 0, thing), [0, [1]], "place")):
            before = copy.deepcopy(wrong)
            with self.assertRaises((BadPlace, BadRow)) as caught:
                call(wrong)
            self.assertEqual(wrong, before)
            wrong[1].append(2)
            self.assertEqual(getattr(caught.exception, field), before)
        wrong = [1]
        with self.assertRaises(BadRow) as caught:
            fixed(EVEN, 0, wrong)
        wrong.append(2)
        self.assertEqual(caught.exception.row, ([1],))

    def test_results_do_not_share_lists(self):
        one, other = fixed(EVEN, 0, 1), fixed(EVEN, 0, 1)
        one.certificate()[0].append("x")
        one.classes(0).clear()
        self.assertEqual(one, other)
        self.assertEqual(restricted(EVEN, [0], [(0,), (1,)]).certificate(), EVEN.certificate())


if __name__ == "__main__":
    unittest.main()
