"""Promises [3] and [10], interface keptbythree.derivations."""

import copy
import unittest

from keptbythree import derivations
from keptbythree.derivations import derivation, derives
from keptbythree.errors import BadRow
from keptbythree.restrict import equated
from keptbythree.rows import is_row
from keptbythree.sets import ClosedSet
from samples import BIT, HUGE, LATCH, NIM, ONE, THREE, any_values, certificate_rows, odd_kind, plain_derives

EVEN = ClosedSet.of_rows([BIT, BIT, BIT], [(0, 0, 0), (0, 1, 1), (1, 0, 1), (1, 1, 0)])
MIXED = equated(ClosedSet.full(odd_kind(3, 5), LATCH, ONE, odd_kind(3, 5), NIM), 0, 3)
FULL = ClosedSet.full(*[odd_kind(4, 1)] * 4)


class Interface(unittest.TestCase):
    def test_the_functions_stand_in_their_file(self):
        for name in ("derivation", "derives"):
            self.assertEqual(getattr(derivations, name).__module__, "keptbythree.derivations")

    def test_examples(self):
        self.assertIs(derives([BIT, BIT], [(0, 0), (0, 1), (1, 0)], [(1, 0, 2)], (1, 1)), True)
        rows, steps = derivation(EVEN, (1, 1, 0))
        self.assertIs(derives(EVEN.kinds, rows, steps, (1, 1, 0)), True)

    def test_by_name(self):
        rows, steps = derivation(row=(1, 1, 0), closed=EVEN)
        self.assertIs(derives(row=(1, 1, 0), steps=steps, rows=rows, kinds=list(EVEN.kinds)), True)


class Derivation(unittest.TestCase):
    def check(self, closed, row):
        result = derivation(closed, row)
        self.assertIsInstance(result, tuple)
        rows, steps = result
        self.assertIsInstance(rows, list)
        self.assertIsInstance(steps, list)
        self.assertLessEqual(len(steps), closed.width)
        for used in rows:
            self.assertIn(used, certificate_rows(closed))
        self.assertTrue(plain_derives(closed.kinds, rows, steps, row))
        self.assertIs(derives(closed.kinds, rows, steps, row), True)

    def test_every_row(self):
        for closed in (EVEN, MIXED, FULL):
            for row in closed.first(300):
                self.check(closed, row)

    def test_rows_of_the_certificate(self):
        for closed in (EVEN, MIXED, FULL):
            for row in certificate_rows(closed):
                self.check(closed, row)
            self.assertEqual(derivation(closed, closed.least()), ([closed.least()], []))

    def test_without_places(self):
        self.assertEqual(derivation(ClosedSet.full(), ()), ([()], []))
        self.assertIs(derives([], [()], [], ()), True)

    def test_rows_that_are_not_in_the_set(self):
        sets = [EVEN, MIXED, ClosedSet.empty(BIT, BIT), ClosedSet.full(), ClosedSet.empty(), ClosedSet.full(BIT)]
        for closed in sets:
            for thing in [*any_values(), (1, 1, 1), (1, 0, 0), (0, 0, 0, 1, 0)]:
                if not closed.has(thing):
                    with self.assertRaises(BadRow) as caught:
                        derivation(closed, thing)
                    self.assertEqual(repr(caught.exception.row), repr(thing))
        self.check(EVEN, (1, 1, 0))

    def test_results_are_new(self):
        before = EVEN.certificate()
        rows, steps = derivation(EVEN, (1, 1, 0))
        kept = copy.deepcopy((rows, steps))
        rows.clear()
        steps.append(None)
        self.assertEqual(derivation(EVEN, (1, 1, 0)), kept)
        self.assertEqual(EVEN.certificate(), before)
        wrong = [0, [1]]
        with self.assertRaises(BadRow) as caught:
            derivation(EVEN, wrong)
        wrong[1].append(2)
        self.assertEqual(caught.exception.row, [0, [1]])


class Derives(unittest.TestCase):
    KINDS = [BIT, THREE]
    ROWS = [(0, 0), (0, 1), (1, 0)]
    STEPS = [(1, 0, 2), (3, 0, 1), (4, 3, 3)]

    def no(self, rows, steps, row, kinds=None):
        self.assertIs(derives(self.KINDS if kinds is None else kinds, rows, steps, row), False)

    def test_right_ones(self):
        self.assertIs(derives(self.KINDS, self.ROWS, [], (1, 0)), True)
        self.assertIs(derives(self.KINDS, self.ROWS, self.STEPS[:1], (1, 1)), True)
        self.assertIs(derives(self.KINDS, self.ROWS, self.STEPS[:2], (1, 2)), True)
        self.assertIs(derives(tuple(self.KINDS), self.ROWS, self.STEPS, (1, 2)), True)
        self.assertIs(derives(self.KINDS, [(0, 0)] * 3, [(0, 1, 2), (3, 3, 3)], (0, 0)), True)
        self.assertIs(derives([ONE], [(0,)], [], (0,)), True)

    def test_any_number_of_rows_and_steps(self):
        rows = self.ROWS * 400
        steps = [(number, 0, 2) for number in range(1000)]
        self.assertIs(derives(self.KINDS, rows, steps, derived(self.KINDS, rows, steps)), True)
        chain = [(number, number, number) for number in range(5000)]
        self.assertIs(derives(self.KINDS, [(1, 2)], chain, (1, 2)), True)

    def test_any_value(self):
        for thing in any_values():
            self.no(thing, [], (1, 2))
            self.no(self.ROWS, thing, (1, 1))
            self.no([*self.ROWS, thing] if not is_row(self.KINDS, thing) else [], [], (1, 0))
            self.no([thing, *self.ROWS] if not is_row(self.KINDS, thing) else [], [], (1, 0))
            self.no(self.ROWS, [thing], (1, 0))
            self.no(self.ROWS, self.STEPS[:1] + [thing], (1, 1))
            self.no(self.ROWS, [(thing, 0, 2)] if thing != 1 or thing is True else [], (1, 1))
            self.no(self.ROWS, [(1, 0, thing)] if thing != 2 else [], (1, 1))
            if not is_row(self.KINDS, thing) or thing != (1, 1):
                self.no(self.ROWS, self.STEPS[:1], thing)

    def test_altered_rows(self):
        self.no([], [], ())
        self.no([], [], (0, 0))
        self.no([], [], (), kinds=[])
        self.no(self.ROWS[:2], self.STEPS[:1], (1, 1))
        self.no(self.ROWS[::-1], self.STEPS[:1], (1, 0))
        self.no([self.ROWS[0]] + self.ROWS, self.STEPS[:1], (1, 1))
        self.no(tuple(self.ROWS), self.STEPS[:1], (1, 1))
        for wrong in ([0, 1], (0, True), (0, 1, 0), (0,), (0, "1"), (0, 3), (2, 0), (0, -1), (0, HUGE), (0, None), "01",
                      ((0, 1),), (False, 1), None):
            self.no([(0, 0), wrong, (1, 0)], self.STEPS[:1], (1, 1))
            self.no([*self.ROWS, wrong], [(1, 0, 2)], (1, 1))

    def test_altered_steps(self):
        for wrong in ([1, 0, 2], (1, 0), (1, 0, 2, 2), (), (True, 0, 2), (1, False, 2), ("1", 0, 2), (1, 0, 3),
                      (1, 0, -1), (-2, 0, 2), (1, HUGE, 2), (1, 0, None), (1, 0, (2,)), (1, 0, [2]), "102", 102, None,
                      True, [], [[1, 0, 2]], ((1, 0, 2),)):
            self.no(self.ROWS, [wrong], (1, 1))
            self.no(self.ROWS, [(1, 0, 2), wrong], (1, 1))
            self.no(self.ROWS, [wrong, (1, 0, 2)], (1, 1))
        self.no(self.ROWS, tuple(self.STEPS[:1]), (1, 1))
        self.no(self.ROWS, [(4, 0, 2), (1, 0, 2)], (1, 1))
        self.no(self.ROWS, [(0, 1, 2)], (1, 1))
        self.no(self.ROWS, self.STEPS[1::-1], (1, 2))
        self.no(self.ROWS, self.STEPS[1:], (1, 2))

    def test_altered_results(self):
        for wrong in ((1, 0), (0, 1), (True, 1), (1, True), [1, 1], (1, 1, 0), (1,), (), "11", 11, None, ((1, 1),),
                      (1, HUGE), (1, "1")):
            self.no(self.ROWS, self.STEPS[:1], wrong)
        self.no([(0, 1)], [], (False, True))
        self.no([()], [], [], kinds=[])
        self.no([()], [], (0,), kinds=[])
        self.no([(0,)], [], (), kinds=[BIT])

    def test_copies_of_derivations(self):
        for closed in (EVEN, MIXED, FULL):
            for row in closed.first(40):
                rows, steps = derivation(closed, row)
                for other_rows, other_steps in alterations(rows, steps):
                    expected = plain_derives(closed.kinds, other_rows, other_steps, row)
                    before = copy.deepcopy((other_rows, other_steps))
                    self.assertIs(derives(closed.kinds, other_rows, other_steps, row), expected)
                    self.assertEqual((other_rows, other_steps), before)


def derived(kinds, rows, steps):
    made = list(rows)
    for i, j, k in steps:
        made.append(tuple(kind.table[x][y][z] for kind, x, y, z in zip(kinds, made[i], made[j], made[k])))
    return made[-1]


def alterations(rows, steps):
    """Copies of a derivation with one thing changed."""
    for at in range(len(rows)):
        yield rows[:at] + rows[at + 1:], steps
        yield rows[:at] + [rows[at]] + rows[at:], steps
        yield rows[:at] + [list(rows[at])] + rows[at + 1:], steps
        yield rows[at:] + rows[:at], steps
        yield rows[:at] + [rows[at][:-1] + (True,)] + rows[at + 1:], steps
        yield rows[:at] + [rows[at][::-1]] + rows[at + 1:], steps
    for at in range(len(steps)):
        yield rows, steps[:at] + steps[at + 1:]
        yield rows, steps[:at] + [steps[at]] + steps[at:]
        yield rows, steps[:at] + [list(steps[at])] + steps[at + 1:]
        yield rows, steps[at:] + steps[:at]
        for turn in range(3):
            for index in (-1, len(rows) + at, len(rows) + at + 1, True, False, "0", None, 0, HUGE, (0,), [0]):
                step = steps[at][:turn] + (index,) + steps[at][turn + 1:]
                yield rows, steps[:at] + [step] + steps[at + 1:]
    yield tuple(rows), steps
    yield rows, tuple(steps)
    yield rows, steps + [(0, 0, 0)]
    yield [], steps


if __name__ == "__main__":
    unittest.main()
