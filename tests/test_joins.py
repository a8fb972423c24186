"""Promises [2] and [3], interface keptbythree.joins."""

import copy
import unittest

from keptbythree import joins
from keptbythree.errors import BadPlace, Full, KindsDiffer
from keptbythree.joins import common, hidden, joined
from keptbythree.kinds import Kind
from keptbythree.restrict import equated, fixed
from keptbythree.sets import ClosedSet
from samples import BIT, FOUR, LATCH, NIM, ONE, THREE, odd_kind, wrong_places

EVEN_ROWS = [(0, 0, 0), (0, 1, 1), (1, 0, 1), (1, 1, 0)]
EVEN = ClosedSet.of_rows([BIT, BIT, BIT], EVEN_ROWS)
NONE = ClosedSet.empty(BIT, BIT, BIT)
ODD = odd_kind(3, 5)
MIXED = ClosedSet.of_rows([LATCH, ONE, NIM], [(0, 0, 1), (0, 0, 3), (1, 0, 1), (1, 0, 3)])


class Interface(unittest.TestCase):
    def test_the_functions_stand_in_their_file(self):
        for name in ("hidden", "joined", "common"):
            self.assertEqual(getattr(joins, name).__module__, "keptbythree.joins")

    def test_examples(self):
        self.assertEqual(hidden(EVEN, 2), ClosedSet.full(BIT, BIT))
        self.assertEqual(joined(EVEN, EVEN, (2, 0)).classes(4), [[0], [1]])

    def test_by_name(self):
        self.assertEqual(common(other=fixed(EVEN, 0, 1), one=EVEN), fixed(EVEN, 0, 1))
        # Starred parameters have no names.
        self.assertEqual(hidden(closed=EVEN), EVEN)
        self.assertEqual(joined(other=ClosedSet.full(THREE), one=EVEN).kinds, (BIT, BIT, BIT, THREE))


class Hidden(unittest.TestCase):
    def test_no_place(self):
        for closed in (EVEN, NONE, MIXED, ClosedSet.full(), ClosedSet.empty()):
            self.assertEqual(hidden(closed), closed)

    def test_some_places(self):
        self.assertEqual(hidden(EVEN, 0).first(9), [(0, 0), (0, 1), (1, 0), (1, 1)])
        self.assertEqual(hidden(fixed(EVEN, 1, 1), 1).first(9), [(0, 1), (1, 0)])
        self.assertEqual(hidden(MIXED, 0, 2).kinds, (ONE,))
        self.assertEqual(hidden(MIXED, 1), ClosedSet.of_rows([LATCH, NIM], [(0, 1), (0, 3), (1, 1), (1, 3)]))
        self.assertEqual(hidden(EVEN, 2, 0), ClosedSet.full(BIT))

    def test_all_places(self):
        for closed in (EVEN, MIXED, ClosedSet.full(ODD, BIT)):
            self.assertEqual(hidden(closed, *range(closed.width)), ClosedSet.full())
            self.assertEqual(hidden(closed, *range(closed.width)).certificate(), [])
        self.assertEqual(hidden(NONE, 0, 1, 2), ClosedSet.empty())
        self.assertIs(hidden(NONE, 0, 1, 2).certificate(), None)
        self.assertEqual(hidden(NONE, 2), ClosedSet.empty(BIT, BIT))

    def test_a_place_twice_counts_once(self):
        self.assertEqual(hidden(EVEN, 1, 1), hidden(EVEN, 1))
        self.assertEqual(hidden(MIXED, 2, 0, 2, 0).kinds, (ONE,))

    def test_places(self):
        for closed in (EVEN, NONE, ClosedSet.full(), ClosedSet.empty()):
            for thing in wrong_places(closed.width):
                for places in ([thing], [thing, None], [*range(closed.width), thing, "x"]):
                    with self.assertRaises(BadPlace) as caught:
                        hidden(closed, *places)
                    self.assertEqual(repr(caught.exception.place), repr(thing))
        self.assertEqual(hidden(EVEN, 0).width, 2)


class Joined(unittest.TestCase):
    def test_without_pairs(self):
        result = joined(fixed(EVEN, 0, 1), MIXED)
        self.assertEqual(result.kinds, (BIT, BIT, BIT, LATCH, ONE, NIM))
        self.assertEqual(result.first(99), [x + y for x in [(1, 0, 1), (1, 1, 0)] for y in MIXED.first(9)])

    def test_pairs(self):
        result = joined(EVEN, EVEN, (2, 0))
        self.assertEqual(result.kinds, (BIT,) * 5)
        self.assertEqual(result.first(99), [x + y[1:] for x in EVEN_ROWS for y in EVEN_ROWS if x[2] == y[0]])
        result = joined(EVEN, EVEN, (0, 2), (1, 1))
        self.assertEqual(result.first(99), [x + y[:1] for x in EVEN_ROWS for y in EVEN_ROWS
                                            if x[0] == y[2] and x[1] == y[1]])

    def test_the_same_pair_twice(self):
        self.assertEqual(joined(EVEN, EVEN, (2, 0), (2, 0)), joined(EVEN, EVEN, (2, 0)))

    def test_a_place_in_several_pairs(self):
        result = joined(EVEN, EVEN, (0, 1), (2, 1))
        self.assertEqual(result.first(99), [x + (y[0], y[2]) for x in EVEN_ROWS for y in EVEN_ROWS
                                            if x[0] == x[2] == y[1]])
        result = joined(EVEN, EVEN, (1, 0), (1, 2))
        self.assertEqual(result.first(99), [x + (y[1],) for x in EVEN_ROWS for y in EVEN_ROWS if x[1] == y[0] == y[2]])
        every = [(place, other) for place in range(3) for other in range(3)]
        self.assertEqual(joined(EVEN, EVEN, *every).first(9), [(0, 0, 0)])

    def test_all_places_of_the_other_set(self):
        self.assertEqual(joined(EVEN, EVEN, (0, 1), (1, 2), (2, 0)), EVEN)
        self.assertEqual(joined(MIXED, hidden(MIXED, 0), (1, 0), (2, 1)), MIXED)

    def test_without_places_and_without_rows(self):
        self.assertEqual(joined(ClosedSet.full(), ClosedSet.full()), ClosedSet.full())
        self.assertEqual(joined(ClosedSet.full(), ClosedSet.empty()), ClosedSet.empty())
        self.assertEqual(joined(EVEN, ClosedSet.full()), EVEN)
        self.assertEqual(joined(ClosedSet.full(), EVEN), EVEN)
        self.assertEqual(joined(EVEN, ClosedSet.empty()), NONE)
        self.assertEqual(joined(ClosedSet.empty(), EVEN), NONE)
        self.assertEqual(joined(NONE, EVEN, (0, 0)), ClosedSet.empty(*[BIT] * 5))
        self.assertEqual(joined(EVEN, NONE, (0, 0), (2, 2)), ClosedSet.empty(*[BIT] * 4))

    def test_nothing_fits(self):
        closed = ClosedSet.of_rows([BIT], [(0,)])
        other = ClosedSet.of_rows([BIT, THREE], [(1, 2)])
        self.assertEqual(joined(closed, other, (0, 0)), ClosedSet.empty(BIT, THREE))

    def test_size_one_and_kinds_from_no_group(self):
        closed = ClosedSet.full(ODD, ONE)
        result = joined(closed, equated(ClosedSet.full(ONE, ODD, ODD), 1, 2), (1, 0), (0, 2))
        self.assertEqual(result.kinds, (ODD, ONE, ODD))
        self.assertEqual(result.first(9), [(value, 0, value) for value in range(3)])

    def test_equal_kinds_that_are_not_the_same_object(self):
        result = joined(ClosedSet.full(Kind.cyclic(3)), ClosedSet.full(Kind.cyclic(3)), (0, 0))
        self.assertEqual(result, ClosedSet.full(THREE))


class JoinedErrors(unittest.TestCase):
    def test_places(self):
        for one, other in ((EVEN, EVEN), (NONE, EVEN), (ClosedSet.full(), EVEN), (EVEN, ClosedSet.full())):
            for thing in wrong_places(one.width):
                for pairs in ([(thing, 0)], [(thing, "x"), (None, None)]):
                    with self.assertRaises(BadPlace) as caught:
                        joined(one, other, *pairs)
                    self.assertEqual(repr(caught.exception.place), repr(thing))
            for thing in wrong_places(other.width) if one.width else []:
                with self.assertRaises(BadPlace) as caught:
                    joined(one, other, (0, thing), ("x", 0))
                self.assertEqual(repr(caught.exception.place), repr(thing))

    def test_kinds(self):
        for one, other in ((MIXED, EVEN), (ClosedSet.empty(LATCH, ONE, NIM), NONE)):
            with self.assertRaises(KindsDiffer) as caught:
                joined(one, other, (2, 1), (0, 9))
            self.assertEqual((caught.exception.place, caught.exception.other), (2, 1))
        with self.assertRaises(KindsDiffer) as caught:
            joined(EVEN, ClosedSet.full(BIT, LATCH), (1, 0), (2, 1), (9, 0))
        self.assertEqual((caught.exception.place, caught.exception.other), (2, 1))

    def test_the_first_pair_with_an_error_counts(self):
        self.assertRaises(BadPlace, joined, EVEN, MIXED, (0, 3), (0, 0))
        self.assertRaises(KindsDiffer, joined, EVEN, MIXED, (0, 0), (0, 3))
        with self.assertRaises(BadPlace) as caught:
            joined(EVEN, EVEN, (0, 0), (1, 5), (7, 0))
        self.assertEqual(caught.exception.place, 5)

    def test_full(self):
        six, seven = ClosedSet.full(*[BIT] * 6), ClosedSet.full(*[BIT] * 7)
        self.assertEqual(joined(six, six).width, 12)
        self.assertEqual(joined(seven, six, (0, 0)).width, 12)
        self.assertEqual(joined(six, seven, (0, 0), (3, 0)).width, 12)
        self.assertEqual(joined(ClosedSet.full(*[ONE] * 12), ClosedSet.full()).width, 12)
        twelve = ClosedSet.full(*[THREE] * 12)
        self.assertEqual(joined(twelve, twelve, *[(place, place) for place in range(12)]), twelve)
        for one, other, pairs in ((six, seven, ()), (seven, six, ()), (seven, seven, ((0, 0),)), (twelve, twelve, ()),
                                  (twelve, ClosedSet.full(ONE), ()), (ClosedSet.empty(*[BIT] * 6), seven, ()),
                                  (six, ClosedSet.empty(*[BIT] * 7), ()), (six, ClosedSet.full(*[BIT] * 8),
                                                                           ((0, 0), (1, 0)))):
            with self.assertRaises(Full) as caught:
                joined(one, other, *pairs)
            self.assertEqual(caught.exception.most, 12)
        self.assertRaises(BadPlace, joined, twelve, twelve, (12, 0))
        self.assertRaises(KindsDiffer, joined, twelve, ClosedSet.full(BIT, BIT), (0, 0))


class Common(unittest.TestCase):
    def test_rows(self):
        self.assertEqual(common(EVEN, fixed(ClosedSet.full(BIT, BIT, BIT), 2, 1)).first(9), [(0, 1, 1), (1, 0, 1)])
        self.assertEqual(common(EVEN, EVEN), EVEN)
        self.assertEqual(common(MIXED, ClosedSet.full(LATCH, ONE, NIM)), MIXED)

    def test_nothing_in_common(self):
        odd = ClosedSet.of_rows([BIT] * 3, [(0, 0, 1), (0, 1, 0), (1, 0, 0), (1, 1, 1)])
        self.assertEqual([common(EVEN, odd), common(odd, EVEN)], [NONE, NONE])
        self.assertEqual([common(EVEN, NONE), common(NONE, EVEN), common(NONE, NONE)], [NONE] * 3)

    def test_without_places(self):
        full, empty = ClosedSet.full(), ClosedSet.empty()
        self.assertEqual([common(full, full), common(full, empty), common(empty, full), common(empty, empty)],
                         [full, empty, empty, empty])

    def test_kinds(self):
        for one, other, place in ((EVEN, MIXED, 0), (EVEN, ClosedSet.full(BIT, LATCH, LATCH), 1),
                                  (EVEN, ClosedSet.full(BIT, BIT), 2), (ClosedSet.full(BIT, BIT), EVEN, 2),
                                  (ClosedSet.full(), EVEN, 0), (NONE, ClosedSet.empty(*[BIT] * 5), 3),
                                  (ClosedSet.full(BIT), ClosedSet.full(THREE, BIT), 0)):
            with self.assertRaises(KindsDiffer) as caught:
                common(one, other)
            self.assertEqual((caught.exception.place, caught.exception.other), (place, place))
        self.assertEqual(common(ClosedSet.full(Kind.cyclic(4)), ClosedSet.full(FOUR)), ClosedSet.full(FOUR))


class Calls(unittest.TestCase):
    def test_nothing_is_changed(self):
        before, other = EVEN.certificate(), MIXED.certificate()
        for _ in range(2):
            results = [hidden(EVEN, 0), joined(EVEN, MIXED), joined(EVEN, EVEN, (0, 1)), common(EVEN, EVEN)]
            self.assertEqual([EVEN.certificate(), MIXED.certificate()], [before, other])
        for result in results:
            kept = result.certificate()
            result.certificate()[0].clear()
            self.assertEqual(result.certificate(), kept)

    def test_wrong_arguments_are_not_changed_and_errors_have_copies(self):
        for call in (lambda thing: hidden(EVEN, thing), lambda thing: joined(EVEN, EVEN, (thing, 0)),
                     lambda thing: joined(EVEN, EVEN, (0, thing))):
            wrong = [0, [1]]
            before = copy.deepcopy(wrong)
            with self.assertRaises(BadPlace) as caught:
                call(wrong)
            self.assertEqual(wrong, before)
            wrong[1].append(2)
            self.assertEqual(caught.exception.place, before)


if __name__ == "__main__":
    unittest.main()
