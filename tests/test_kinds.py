"""Promises [2] and [4], interface keptbythree.kinds."""

import copy
import unittest
from itertools import product

from keptbythree.errors import BadEntries, BadKind, BadSize
from keptbythree.kinds import Kind
from samples import BIT, HUGE, LATCH, any_values, nested, odd_kind


def table_of(size, value):
    """The table with value(x, y, z) as its entries."""
    return tuple(tuple(tuple(value(x, y, z) for z in range(size)) for y in range(size)) for x in range(size))


def first_wrong_pair(table):
    for x, y in product(range(len(table)), repeat=2):
        if (table[x][y][y], table[y][y][x]) != (x, x):
            return (x, y)
    return None


def free_places(size):
    return [(x, y, z) for x, y, z in product(range(size), repeat=3) if x != y and y != z]


class Tables(unittest.TestCase):
    def check_bad(self, table, x, y):
        with self.assertRaises(BadKind) as caught:
            Kind(table)
        self.assertEqual(repr((caught.exception.x, caught.exception.y)), repr((x, y)), table)

    def test_examples(self):
        self.assertEqual(BIT.table, (((0, 1), (1, 0)), ((1, 0), (0, 1))))
        self.assertEqual([BIT.apply(0, 1, 0), LATCH.apply(0, 1, 0)], [1, 0])
        self.check_bad((((0, 0), (0, 0)), ((1, 0), (0, 1))), 1, 0)

    def test_largest(self):
        self.assertEqual(Kind.LARGEST, 4)
        self.assertEqual(BIT.LARGEST, 4)

    def test_every_table_of_size_two(self):
        for entries in product((0, 1), repeat=8):
            values = list(entries)
            table = table_of(2, lambda x, y, z: values[4 * x + 2 * y + z])
            wrong = first_wrong_pair(table)
            if wrong is None:
                self.assertEqual(Kind(table).table, table)
            else:
                self.check_bad(table, *wrong)

    def test_one_value(self):
        kind = Kind((((0,),),))
        self.assertEqual((kind.size, kind.table, kind.apply(0, 0, 0)), (1, (((0,),),), 0))

    def test_tables_of_larger_sizes(self):
        for size in (3, 4):
            for seed in range(5):
                table = odd_kind(size, seed).table
                self.assertEqual((Kind(table).size, Kind(table).table), (size, table))

    def test_first_pair_that_fails(self):
        for size in (2, 3, 4):
            for x, y, z in product(range(size), repeat=3):
                if x != y and y != z:
                    continue
                rows = [[list(line) for line in plane] for plane in odd_kind(size, 7).table]
                rows[x][y][z] = (rows[x][y][z] + 1) % size
                table = tuple(tuple(tuple(line) for line in plane) for plane in rows)
                self.check_bad(table, *((z, x) if x == y else (x, y)))

    def test_the_first_of_several_pairs(self):
        self.check_bad(table_of(3, lambda x, y, z: 2 - x), 0, 0)
        self.check_bad(table_of(3, lambda x, y, z: x), 0, 1)
        self.check_bad(table_of(4, lambda x, y, z: z if x < 2 or y < 2 else x), 0, 1)
        self.check_bad(table_of(2, lambda x, y, z: 1), 0, 0)
        self.check_bad(table_of(2, lambda x, y, z: 0), 1, 0)

    def test_what_is_no_table(self):
        good = odd_kind(2, 1).table
        wrong = [good[0], good + good, (good[0],), list(good), (list(good[0]), good[1]),
                 (good[0], (good[1][0], list(good[1][1]))), (good[0], (good[1][0], good[1][1] + (0,))),
                 (good[0], (good[1][0], good[1][1][:1])), (good[0], good[1] + (good[1][0],)), (good[0], 1),
                 ("01", "01"), (("01", "10"), ("10", "01")), good + ((),)]
        for table in wrong + any_values():
            self.check_bad(table, None, None)

    def test_sizes_out_of_range(self):
        self.check_bad((), None, None)
        self.check_bad(table_of(5, lambda x, y, z: (x - y + z) % 5), None, None)
        self.check_bad(table_of(12, lambda x, y, z: (x - y + z) % 12), None, None)

    def test_values_that_are_none(self):
        for size in (1, 2, 3, 4):
            good = Kind.cyclic(size).table
            for x, y, z in product(range(size), repeat=3):
                wrong = [bool(good[x][y][z])] if good[x][y][z] < 2 else []
                for value in wrong + [-1, size, HUGE, -HUGE, None, "0", (0,), [0], nested(6, 0)]:
                    table = table_of(size, lambda a, b, c: value if (a, b, c) == (x, y, z) else good[a][b][c])
                    self.check_bad(table, None, None)

    def test_form_is_checked_ahead_of_the_operation(self):
        self.check_bad((((1, 1), (1, 1)), ((1, 1), (1, 2))), None, None)
        self.check_bad((((1, 1), (1, 1)), ((1, 1), (1, True))), None, None)

    def test_argument_is_not_changed(self):
        table = (((0, 1), [1, 0]), ((1, 0), (0, 1)))
        before = copy.deepcopy(table)
        self.check_bad(table, None, None)
        self.assertEqual(table, before)


class Cyclic(unittest.TestCase):
    def test_sums(self):
        for size in (1, 2, 3, 4):
            kind = Kind.cyclic(size)
            self.assertEqual(kind.size, size)
            self.assertEqual(kind.table, table_of(size, lambda x, y, z: (x - y + z) % size))
            for x, y, z in product(range(size), repeat=3):
                self.assertEqual(kind.apply(x, y, z), (x - y + z) % size)

    def test_off_an_object(self):
        self.assertEqual(BIT.cyclic(3), Kind.cyclic(3))

    def test_wrong_sizes(self):
        for size in any_values():
            if repr(size) in ("1", "2", "3", "4"):
                continue
            with self.assertRaises(BadSize) as caught:
                Kind.cyclic(size)
            self.assertEqual(repr(caught.exception.given), repr(size))

    def test_true_is_not_one(self):
        for call in (Kind.cyclic, lambda size: Kind.free(size, [])):
            with self.assertRaises(BadSize) as caught:
                call(True)
            self.assertIs(caught.exception.given, True)


class Free(unittest.TestCase):
    def test_entries_in_ascending_order(self):
        for size in (1, 2, 3, 4):
            places = free_places(size)
            self.assertEqual(len(places), size * (size - 1) * (size - 1))
            for step in range(1, 6):
                entries = [(step * at + at // 3) % size for at in range(len(places))]
                kind = Kind.free(size, entries)
                self.assertEqual([kind.apply(x, y, z) for x, y, z in places], entries)
                self.assertIsNone(first_wrong_pair(kind.table))
                self.assertEqual(Kind(kind.table), kind)

    def test_a_list_or_a_tuple(self):
        self.assertEqual(Kind.free(2, [0, 1]), Kind.free(2, (0, 1)))
        self.assertEqual(Kind.free(1, []), Kind.free(1, ()))
        self.assertEqual(Kind.free(1, ()).table, (((0,),),))

    def test_cyclic_kinds_are_free_ones(self):
        for size in (1, 2, 3, 4):
            kind = Kind.cyclic(size)
            self.assertEqual(Kind.free(size, [kind.apply(x, y, z) for x, y, z in free_places(size)]), kind)

    def test_wrong_entries(self):
        wrong = [[], [0], [0, 1, 0], (0, 1, 1), [0, 2], [0, -1], [0, True], [False, 0], [0, None], ["0", "1"],
                 "01", None, 0, 2, True, [[0, 1]], [(0,), 1], ([0], [1]), [0, HUGE], [-HUGE, 0], "", nested(8, 0)]
        for entries in wrong:
            before = copy.deepcopy(entries)
            self.assertRaises(BadEntries, Kind.free, 2, entries)
            self.assertEqual(repr(entries), repr(before))

    def test_wrong_numbers_of_entries(self):
        for size in (1, 2, 3, 4):
            many = size * (size - 1) * (size - 1)
            for given in range(many + 20):
                if given != many:
                    self.assertRaises(BadEntries, Kind.free, size, [0] * given)

    def test_any_value_as_entries(self):
        for entries in any_values():
            if repr(entries) not in ("[0, 0]", "(0, 0)"):
                self.assertRaises(BadEntries, Kind.free, 2, entries)
            if repr(entries) not in ("[]", "()"):
                self.assertRaises(BadEntries, Kind.free, 1, entries)

    def test_wrong_sizes_are_raised_ahead_of_wrong_entries(self):
        for size in any_values():
            if repr(size) in ("1", "2", "3", "4"):
                continue
            for entries in ([], [0, 1], None, "x", [True]):
                with self.assertRaises(BadSize) as caught:
                    Kind.free(size, entries)
                self.assertEqual(repr(caught.exception.given), repr(size))

    def test_arguments_are_copied(self):
        entries = [0, 1]
        kind = Kind.free(2, entries)
        self.assertEqual(entries, [0, 1])
        entries[0] = 1
        entries.append(0)
        self.assertEqual(kind, LATCH)
        self.assertEqual(kind.table, (((0, 1), (0, 0)), ((1, 1), (0, 1))))

    def test_size_in_the_error_is_a_copy(self):
        size = [[2]]
        with self.assertRaises(BadSize) as caught:
            Kind.free(size, [])
        size[0].append(3)
        self.assertEqual(caught.exception.given, [[2]])


class Objects(unittest.TestCase):
    def test_equal_kinds(self):
        self.assertTrue(Kind.cyclic(2) == BIT)
        self.assertFalse(Kind.cyclic(2) != BIT)
        self.assertTrue(Kind.free(2, [1, 0]) == BIT)
        self.assertFalse(LATCH == BIT)
        self.assertTrue(LATCH != BIT)
        self.assertFalse(Kind.cyclic(3) == BIT)
        self.assertFalse(Kind.cyclic(1) == Kind.cyclic(4))

    def test_a_kind_equals_nothing_else(self):
        for other in any_values() + [BIT.table, [BIT], (BIT,), "Kind(size=2)", BadSize(2)]:
            self.assertIs(BIT == other, False)
            self.assertIs(other == BIT, False)
            self.assertIs(BIT != other, True)

    def test_repr(self):
        self.assertEqual([repr(Kind.cyclic(size)) for size in (1, 2, 3, 4)],
                         ["Kind(size=1)", "Kind(size=2)", "Kind(size=3)", "Kind(size=4)"])

    def test_tables_are_tuples_of_integers(self):
        for kind in (BIT, LATCH, odd_kind(3, 1), odd_kind(4, 1), Kind.cyclic(4)):
            self.assertIs(kind.table.__class__, tuple)
            for plane in kind.table:
                self.assertIs(plane.__class__, tuple)
                for line in plane:
                    self.assertIs(line.__class__, tuple)
                    self.assertEqual({value.__class__ for value in line}, {int})

    def test_size_and_table_cannot_be_assigned(self):
        kind = Kind.cyclic(2)
        for name in ("size", "table"):
            self.assertRaises(AttributeError, setattr, kind, name, 1)
        self.assertEqual(kind, BIT)

    def test_calls_by_name(self):
        self.assertEqual(Kind(table=BIT.table), BIT)
        self.assertEqual(Kind.cyclic(size=2), BIT)
        self.assertEqual(Kind.free(entries=[0, 1], size=2), LATCH)
        self.assertEqual(Kind.free(2, entries=(0, 1)), LATCH)
        kind = Kind.cyclic(4)
        self.assertEqual(kind.apply(z=3, y=1, x=0), 2)
        self.assertEqual(kind.apply(3, z=0, y=1), 2)


if __name__ == "__main__":
    unittest.main()
