"""Promises [2] and [3], interface keptbythree.orders."""

import unittest

from keptbythree import orders
from keptbythree.errors import BadOrder
from keptbythree.orders import reordered
from keptbythree.restrict import fixed
from keptbythree.sets import ClosedSet
from samples import BIT, HUGE, LATCH, NIM, ONE, THREE, any_values, taken

EVEN = ClosedSet.of_rows([BIT, BIT, BIT], [(0, 0, 0), (0, 1, 1), (1, 0, 1), (1, 1, 0)])
SUMS = [(0, 0, 0), (0, 1, 1), (1, 0, 2), (1, 1, 3)]
MIXED = ClosedSet.of_rows([LATCH, BIT, NIM], [(0, 0, 1), (0, 1, 3), (1, 0, 1), (1, 1, 3)])


class Orders(unittest.TestCase):
    def test_the_function_stands_in_its_file(self):
        self.assertEqual(orders.reordered.__module__, "keptbythree.orders")

    def test_example(self):
        self.assertEqual(reordered(fixed(EVEN, 0, 1), [1, 0, 2]).first(4), [(0, 1, 1), (1, 1, 0)])

    def test_place_i_has_the_value_of_place_order_i(self):
        closed = ClosedSet.of_rows([BIT, THREE, ONE, NIM], [(1, 2, 0, 3)])
        result = reordered(closed, (3, 0, 1, 2))
        self.assertEqual(result.kinds, (NIM, BIT, THREE, ONE))
        self.assertEqual(result.first(2), [(3, 1, 2, 0)])

    def test_classes_follow_the_order(self):
        closed = ClosedSet.of_rows([BIT, BIT, NIM], SUMS)
        self.assertEqual([closed.classes(place) for place in range(3)], [[[0, 1]], [[0, 1]], [[0], [1], [2], [3]]])
        result = reordered(closed, [2, 0, 1])
        self.assertEqual([result.classes(place) for place in range(3)], [[[0, 1, 2, 3]], [[0], [1]], [[0], [1]]])
        self.assertEqual(result.first(9), taken(SUMS, [2, 0, 1]))
        result = reordered(closed, [0, 2, 1])
        self.assertEqual([result.classes(place) for place in range(3)], [[[0, 1]], [[0, 1], [2, 3]], [[0], [1]]])

    def test_by_name(self):
        self.assertEqual(reordered(order=[2, 1, 0], closed=MIXED).kinds, (NIM, BIT, LATCH))

    def test_without_places_and_without_rows(self):
        self.assertEqual(reordered(ClosedSet.full(), []), ClosedSet.full())
        self.assertEqual(reordered(ClosedSet.full(), ()), ClosedSet.full())
        self.assertEqual(reordered(ClosedSet.empty(), []), ClosedSet.empty())
        self.assertEqual(reordered(ClosedSet.empty(BIT, THREE), [1, 0]), ClosedSet.empty(THREE, BIT))
        self.assertEqual(reordered(ClosedSet.full(ONE, BIT), [1, 0]), ClosedSet.full(BIT, ONE))

    def test_the_order_as_it_is(self):
        for closed in (EVEN, MIXED):
            self.assertEqual(reordered(closed, [0, 1, 2]), closed)
            self.assertEqual(reordered(reordered(closed, [1, 2, 0]), [2, 0, 1]), closed)


class WrongOrders(unittest.TestCase):
    def test_any_value(self):
        for closed in (EVEN, ClosedSet.empty(BIT), ClosedSet.full(BIT, BIT, BIT, BIT, BIT)):
            for thing in any_values():
                if repr(thing) not in ("[0]", "(0,)") or closed.width != 1:
                    self.assertRaises(BadOrder, reordered, closed, thing)
        for thing in any_values():
            if thing != () and thing != []:
                self.assertRaises(BadOrder, reordered, ClosedSet.full(), thing)
                self.assertRaises(BadOrder, reordered, ClosedSet.empty(), thing)

    def test_not_all_places_each_once(self):
        for order in [[0, 1], [0, 1, 1], [0, 1, 2, 2], [0, 1, 3], [-1, 0, 1], [1, 2, 3], (0, 0, 0), [0, 1, 2, 3],
                      [0, True, 2], (False, 1, 2), [0, 1, "2"], [0, 1, [2]], [0, 1, (2,)], [0, 1, None], "012",
                      [0, 1, HUGE], [[0, 1, 2]], {0: 1, 1: 2, 2: 0}]:
            for closed in (EVEN, ClosedSet.empty(BIT, BIT, BIT)):
                self.assertRaises(BadOrder, reordered, closed, order)


class Calls(unittest.TestCase):
    def test_arguments_are_not_changed(self):
        before = EVEN.certificate()
        order = [2, 0, 1]
        result = reordered(EVEN, order)
        self.assertEqual(order, [2, 0, 1])
        self.assertEqual(EVEN.certificate(), before)
        order.reverse()
        self.assertEqual(result, EVEN)
        wrong = [0, [1], 2]
        self.assertRaises(BadOrder, reordered, EVEN, wrong)
        self.assertEqual(wrong, [0, [1], 2])


if __name__ == "__main__":
    unittest.main()
