"""Promise [2]: what an integer is, and copies."""

import unittest

from keptbythree.values import copied, is_integer, is_value
from samples import HUGE, any_values, nested


class Integers(unittest.TestCase):
    def test_integers(self):
        for thing in [0, 1, -1, HUGE, -HUGE]:
            self.assertIs(is_integer(thing), True)

    def test_all_else_is_no_integer(self):
        for thing in [True, False, None, "", "1", [], [1], (), (1,)]:
            self.assertIs(is_integer(thing), False)

    def test_values_of_a_size(self):
        self.assertEqual([thing for thing in range(-3, 9) if is_value(thing, 4)], [0, 1, 2, 3])
        for thing in [True, False, None, "0", (0,), [0], HUGE, -HUGE]:
            self.assertIs(is_value(thing, 4), False)


class Copies(unittest.TestCase):
    def test_a_copy_looks_the_same(self):
        for thing in any_values():
            self.assertEqual(repr(copied(thing)), repr(thing))

    def test_every_list_of_a_copy_is_new(self):
        inner = [1]
        thing = [inner, (inner, [inner]), "x"]
        copy = copied(thing)
        inner.append(2)
        thing.append(3)
        self.assertEqual(copy, [[1], ([1], [[1]]), "x"])
        copy[1][1][0].append(4)
        self.assertEqual(thing, [[1, 2], ([1, 2], [[1, 2]]), "x", 3])

    def test_no_depth_is_too_much(self):
        copy = copied(nested(20000, 7))
        depth = 0
        while copy != 7:
            self.assertEqual(type(copy), tuple if depth % 2 else list)
            copy = copy[0]
            depth += 1
        self.assertEqual(depth, 20000)


if __name__ == "__main__":
    unittest.main()
