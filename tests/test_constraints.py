"""Promise [13], interface keptbythree.constraints."""

import copy
import unittest

from keptbythree import constraints
from keptbythree.constraints import Constraint, Equal, Fixed, Member, Table
from keptbythree.errors import BadConstraint, BadName
from keptbythree.sets import ClosedSet
from samples import BIT, HUGE, LATCH, THREE, any_values

EVEN = ClosedSet.of_rows([BIT, BIT, BIT], [(0, 0, 0), (0, 1, 1), (1, 0, 1), (1, 1, 0)])
WRONG_NAMES = [thing for thing in any_values() if thing != "x"] + ["abcd", "X", "aB", "x1", "x ", " x", "x\n", "x_",
                                                                   "`", "{", "a-b", ["x"], ("x",), "~"]


class Interface(unittest.TestCase):
    def test_they_stand_in_their_file(self):
        for name in ("Constraint", "Table", "Fixed", "Equal", "Member"):
            made = getattr(constraints, name)
            self.assertEqual(made.__module__, "keptbythree.constraints")
            self.assertIsInstance(vars(made)["names"], property)
            self.assertIn("allows", vars(made))
            self.assertTrue(issubclass(made, Constraint))

    def test_examples(self):
        self.assertEqual(str(Table("x", "y", rows=[(1, 1), (0, 0)])), "x y among 00 11")
        self.assertEqual([Equal("x", "y", "x").allows(1, 1, 1), Fixed("x", 1).allows(True),
                          Member("x", "y", "z", closed=EVEN).names], [True, False, ("x", "y", "z")])

    def test_by_name(self):
        self.assertEqual(str(Fixed(value=2, name="x")), "x equals 2")
        self.assertEqual(str(Table("x", rows=[(0,)])), "x among 0")


class Names(unittest.TestCase):
    def test_names(self):
        self.assertEqual(Table("abc", "z", "abc", rows=[]).names, ("abc", "z", "abc"))
        self.assertEqual(Fixed("zz", 0).names, ("zz",))
        self.assertEqual(Equal("a", "z").names, ("a", "z"))
        self.assertEqual(Member("if", closed=EVEN).names, ("if",))

    def test_wrong_names(self):
        for thing in WRONG_NAMES:
            for call in (lambda: Table(thing, rows=[]), lambda: Table("x", "y", thing, None, rows=[(0, 0)]),
                         lambda: Fixed(thing, 1), lambda: Equal(thing), lambda: Equal("x", "y", thing, 0),
                         lambda: Equal(thing, "x"), lambda: Member(thing, closed=EVEN),
                         lambda: Member("x", thing, "", closed=EVEN), lambda: Table("a", "b", "c", "d", thing, rows=[])):
                with self.assertRaises(BadName) as caught:
                    call()
                self.assertEqual(repr(caught.exception.name), repr(thing))
        self.assertEqual(Fixed("x", 1).names, ("x",))

    def test_too_many_or_too_few(self):
        for call in (lambda: Table(rows=[]), lambda: Table(rows=[(0,)]), lambda: Table("a", "b", "c", "d", rows=[]),
                     lambda: Table("x", "x", "x", "x", rows=[(0, 0, 0, 0)]), Equal, lambda: Equal("x"),
                     lambda: Member(closed=EVEN), lambda: Member(closed=ClosedSet.full())):
            self.assertRaises(BadConstraint, call)
        self.assertEqual(len(Equal(*["x", "y"] * 10).names), 20)
        self.assertEqual(len(Member(*["x"] * 15, closed=EVEN).names), 15)

    def test_errors_have_copies(self):
        wrong = [0, [1]]
        before = copy.deepcopy(wrong)
        with self.assertRaises(BadName) as caught:
            Equal("x", wrong)
        self.assertEqual(wrong, before)
        wrong[1].append(2)
        self.assertEqual(caught.exception.name, before)


class Allows(unittest.TestCase):
    ALL = [Table("x", "y", rows=[(0, 1), (1, 0)]), Fixed("x", 1), Equal("x", "y", "z"),
           Member("x", "y", "z", closed=EVEN), Table("x", rows=[]), Table("x", "x", rows=[(0, 0), (1, 0)]),
           Member("x", "y", "x", closed=EVEN), Member("x", "y", closed=EVEN)]

    def test_tables(self):
        table = Table("x", "y", rows=[(0, 1), (1, 0), (0, 1)])
        self.assertEqual([table.allows(0, 1), table.allows(1, 0), table.allows(0, 0), table.allows(1, 1)],
                         [True, True, False, False])
        self.assertIs(Table("x", rows=[]).allows(0), False)
        self.assertIs(Table("x", rows=[(9,)]).allows(9), True)
        # Rows need not have as many values as there are names.
        self.assertEqual([Table("x", rows=[(0, 1)]).allows(0), Table("x", rows=[(0, 1)]).allows(0, 1)], [False] * 2)

    def test_fixed(self):
        self.assertEqual([Fixed("x", 3).allows(3), Fixed("x", 3).allows(2), Fixed("x", 0).allows(0)],
                         [True, False, True])
        self.assertEqual([Fixed("x", 0).allows(False), Fixed("x", 1).allows(True), Fixed("x", 1).allows("1")],
                         [False] * 3)

    def test_equal(self):
        equal = Equal("x", "y")
        self.assertEqual([equal.allows(5, 5), equal.allows(HUGE, HUGE), equal.allows(-1, -1), equal.allows(0, 1)],
                         [True, True, True, False])
        self.assertEqual([equal.allows(1, True), equal.allows(True, True), equal.allows(None, None),
                          equal.allows("a", "a"), equal.allows((), ())], [False] * 5)
        self.assertEqual([Equal("x", "x").allows(0, 0), Equal("x", "x").allows(0, 1)], [True, False])

    def test_members(self):
        member = Member("x", "y", "z", closed=EVEN)
        self.assertEqual([member.allows(1, 1, 0), member.allows(1, 1, 1), member.allows(True, 1, 0)],
                         [True, False, False])
        self.assertIs(Member("x", "y", closed=EVEN).allows(0, 0), False)
        self.assertIs(Member("x", "y", "z", "u", closed=EVEN).allows(0, 0, 0, 0), False)
        self.assertIs(Member("x", closed=ClosedSet.empty(BIT)).allows(0), False)
        self.assertIs(Member("x", "y", closed=ClosedSet.full(LATCH, THREE)).allows(1, 2), True)

    def test_the_same_name_twice(self):
        table = Table("x", "x", rows=[(0, 0), (0, 1), (1, 0), (1, 1)])
        self.assertEqual([table.allows(1, 1), table.allows(0, 1), table.allows(1, 0)], [True, False, False])
        member = Member("x", "y", "x", closed=EVEN)
        self.assertEqual([member.allows(1, 0, 1), member.allows(0, 1, 1), member.allows(1, 1, 1)],
                         [True, False, False])
        self.assertEqual([Equal("x", "y", "x").allows(1, 1, 2), Equal("x", "y", "x").allows(2, 2, 2)], [False, True])

    def test_more_or_fewer_values(self):
        for constraint in self.ALL:
            for many in range(6):
                if many != len(constraint.names):
                    self.assertIs(constraint.allows(*[0] * many), False)
                    self.assertIs(constraint.allows(*[1] * many), False)

    def test_any_value(self):
        for constraint in self.ALL:
            for thing in any_values():
                if type(thing) is not int:
                    many = len(constraint.names)
                    self.assertIs(constraint.allows(*[thing] * many), False)
                    self.assertIs(constraint.allows(*[0] * (many - 1), thing), False)
                    self.assertIs(constraint.allows(thing, *[0] * (many - 1)), False)
                    self.assertIs(constraint.allows(*[1] * (many - 1), thing), False)
        for constraint in self.ALL[:1] + self.ALL[3:]:
            for thing in (-1, 4, HUGE, -HUGE):
                self.assertIs(constraint.allows(*[thing] * len(constraint.names)), False)


class Base(unittest.TestCase):
    def test_what_all_have_in_common(self):
        table = Table("x", "y", "x", rows=[])
        self.assertEqual(vars(Constraint)["names"].fget(table), ("x", "y", "x"))
        self.assertEqual([Constraint.allows(table, 3, 1, 3), Constraint.allows(table, 3, 1, 2),
                          Constraint.allows(table, 3, 1), Constraint.allows(table, True, 1, True)],
                         [True, False, False, False])


class Written(unittest.TestCase):
    def test_tables(self):
        self.assertEqual(str(Table("x", "y", "z", rows=[(2, 0, 1), (0, 9, 9), (2, 0, 1)])), "x y z among 099 201")
        self.assertEqual(str(Table("x", "y", rows=[])), "x y among -")
        self.assertEqual(str(Table("x", "x", rows=[(0, 0)])), "x x among 00")

    def test_the_others(self):
        self.assertEqual([str(Fixed("ab", 9)), str(Equal("x", "y", "x")), str(Member("x", closed=ClosedSet.full(BIT))),
                          str(Member("x", "y", "z", closed=EVEN))],
                         ["ab equals 9", "x y x alike", "x within a set", "x y z within a set"])


class Copies(unittest.TestCase):
    def test_rows(self):
        rows = [(1, 1), (0, 0)]
        table = Table("x", "y", rows=rows)
        self.assertEqual(rows, [(1, 1), (0, 0)])
        rows.append((0, 1))
        self.assertEqual([table.allows(0, 1), str(table)], [False, "x y among 00 11"])


if __name__ == "__main__":
    unittest.main()
