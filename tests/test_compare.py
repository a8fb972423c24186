"""Promise [3], interface keptbythree.compare."""

import unittest

from keptbythree import compare
from keptbythree.compare import difference, includes
from keptbythree.errors import KindsDiffer
from keptbythree.kinds import Kind
from keptbythree.restrict import fixed
from keptbythree.sets import ClosedSet
from samples import BIT, LATCH, NIM, ONE, THREE, odd_kind

EVEN = ClosedSet.of_rows([BIT, BIT, BIT], [(0, 0, 0), (0, 1, 1), (1, 0, 1), (1, 1, 0)])
ALL = ClosedSet.full(BIT, BIT, BIT)
NONE = ClosedSet.empty(BIT, BIT, BIT)
ODD = odd_kind(3, 5)


class Interface(unittest.TestCase):
    def test_the_functions_stand_in_their_file(self):
        for name in ("difference", "includes"):
            self.assertEqual(getattr(compare, name).__module__, "keptbythree.compare")

    def test_by_name(self):
        self.assertEqual(difference(other=EVEN, one=ALL), (1, 0, 0))
        self.assertIs(includes(other=EVEN, one=ALL), True)


class Difference(unittest.TestCase):
    def test_example(self):
        self.assertEqual(difference(EVEN, fixed(EVEN, 0, 0)), (1, 0, 1))

    def test_the_first_row_of_the_certificate(self):
        # The certificate of all rows has 000 and 100 in its first entry, 000 and 010 in its second one.
        self.assertEqual(difference(ALL, fixed(ALL, 0, 1)), (0, 0, 0))
        self.assertEqual(difference(ALL, fixed(ALL, 0, 0)), (1, 0, 0))
        self.assertEqual(difference(ALL, fixed(ALL, 1, 0)), (0, 1, 0))
        self.assertEqual(difference(ALL, EVEN), (1, 0, 0))

    def test_equal_and_smaller_sets(self):
        for closed in (EVEN, ALL, NONE, ClosedSet.full(ODD, ONE, NIM), ClosedSet.full(LATCH)):
            self.assertIs(difference(closed, closed), None)
        self.assertIs(difference(EVEN, ALL), None)
        self.assertIs(difference(fixed(EVEN, 2, 1), EVEN), None)

    def test_empty_sets(self):
        self.assertIs(difference(NONE, EVEN), None)
        self.assertIs(difference(NONE, NONE), None)
        self.assertEqual(difference(EVEN, NONE), (0, 0, 0))
        self.assertEqual(difference(fixed(EVEN, 0, 1), NONE), (1, 0, 1))

    def test_without_places(self):
        full, empty = ClosedSet.full(), ClosedSet.empty()
        self.assertEqual([difference(full, full), difference(full, empty), difference(empty, full),
                          difference(empty, empty)], [None, (), None, None])


class Includes(unittest.TestCase):
    def test_sets(self):
        self.assertEqual([includes(ALL, EVEN), includes(EVEN, ALL), includes(EVEN, EVEN)], [True, False, True])
        self.assertEqual([includes(EVEN, NONE), includes(NONE, EVEN), includes(NONE, NONE)], [True, False, True])
        self.assertEqual([includes(EVEN, fixed(EVEN, 1, 1)), includes(fixed(EVEN, 1, 1), EVEN)], [True, False])

    def test_without_places(self):
        full, empty = ClosedSet.full(), ClosedSet.empty()
        self.assertEqual([includes(full, full), includes(full, empty), includes(empty, full), includes(empty, empty)],
                         [True, True, False, True])


class Kinds(unittest.TestCase):
    def test_kinds_that_differ(self):
        for function in (difference, includes):
            for one, other, place in ((EVEN, ClosedSet.full(BIT, LATCH, THREE), 1), (EVEN, ClosedSet.full(BIT, BIT), 2),
                                      (ClosedSet.full(BIT, BIT), EVEN, 2), (ClosedSet.full(), EVEN, 0),
                                      (ClosedSet.empty(), NONE, 0), (NONE, ClosedSet.full(ONE, BIT, BIT), 0)):
                with self.assertRaises(KindsDiffer) as caught:
                    function(one, other)
                self.assertEqual((caught.exception.place, caught.exception.other), (place, place))
            function(ClosedSet.full(Kind.cyclic(3)), ClosedSet.full(THREE))

    def test_nothing_is_changed(self):
        before = [EVEN.certificate(), ALL.certificate()]
        self.assertEqual([difference(ALL, EVEN), includes(EVEN, ALL)], [difference(ALL, EVEN), includes(EVEN, ALL)])
        self.assertEqual([EVEN.certificate(), ALL.certificate()], before)


if __name__ == "__main__":
    unittest.main()
