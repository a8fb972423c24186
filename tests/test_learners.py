"""Promises [3] and [11], interface keptbythree.learners."""

import copy
import unittest

from keptbythree import learners
from keptbythree.compare import difference
from keptbythree.errors import BadPlace, BadRow, Known
from keptbythree.learners import Learner, learn
from keptbythree.sets import ClosedSet
from samples import (BIT, FOUR, HUGE, LATCH, NIM, ONE, THREE, all_rows, any_values, calls_of, certificate_rows,
                     numbers, odd_kind, plain_closure, plain_combination, plain_row, random_rules, ruled, shuffled,
                     small_sets, wrong_places)

EVEN_ROWS = [(0, 0, 0), (0, 1, 1), (1, 0, 1), (1, 1, 0)]


def told(kinds, rows):
    """A learner that is told those of the rows that are missing in its guess."""
    learner = Learner(*kinds)
    for row in rows:
        if not learner.has(row):
            learner.tell(row)
    return learner


def guess(learner, kinds):
    return [row for row in all_rows(kinds) if learner.has(row)]


def most_rows(closed):
    """As many rows as a learner may need to know the set."""
    return 1 + sum(len([value for group in closed.classes(place) for value in group]) - len(closed.classes(place))
                   for place in range(closed.width))


class PlainLearner:
    """A learner in the words of the document, by lists of links."""

    def __init__(self, kinds):
        self.kinds, self.begin, self.links = kinds, None, [[] for _ in kinds]

    def paths(self, place, value, seen):
        """All paths without a value twice, as pairs (value reached, rows of the links)."""
        yield value, []
        for a, b, t, u in self.links[place]:
            for first, second, old, new in ((a, b, t, u), (b, a, u, t)):
                if first == value and second not in seen:
                    for end, path in self.paths(place, second, seen | {second}):
                        yield end, [(old, new)] + path

    def walk(self, row):
        y = self.begin
        for place in range(len(row)):
            if y[place] != row[place]:
                found = [path for end, path in self.paths(place, y[place], {y[place]}) if end == row[place]]
                assert len(found) <= 1, "links form a cycle"
                if not found:
                    return place, y
                for t, u in found[0]:
                    y = plain_combination(self.kinds, y, t, u)
        return None, y

    def tell(self, row):
        if self.begin is None:
            self.begin = row
        else:
            place, y = self.walk(row)
            self.links[place].append((y[place], row[place], y, row))


class Interface(unittest.TestCase):
    def test_they_stand_in_their_file(self):
        self.assertEqual([Learner.__module__, learn.__module__], [learners.__name__] * 2)
        for name in ("has", "tell", "told", "start", "links"):
            self.assertIn(name, vars(Learner))

    def test_example(self):
        learner = Learner(BIT, BIT)
        self.assertIs(learner.tell((0, 0)), None)
        learner.tell((1, 1))
        self.assertEqual([learner.has((1, 0)), learner.links(0), learner.told], [False, [(0, 1, (0, 0), (1, 1))], 2])

    def test_by_name(self):
        learner = Learner(BIT)
        learner.tell(row=(1,))
        self.assertEqual([learner.has(row=(1,)), learner.links(place=0)], [True, []])
        self.assertEqual(learn(find=lambda _: None, kinds=(BIT,)).told, 0)


class Guesses(unittest.TestCase):
    def test_before_the_first_row(self):
        learner = Learner(BIT, THREE)
        self.assertEqual([learner.start(), learner.told, learner.links(0), learner.links(1)], [None, 0, [], []])
        self.assertEqual(guess(learner, [BIT, THREE]), [])

    def test_the_start(self):
        learner = told([BIT, THREE], [(1, 2), (0, 0)])
        self.assertEqual([learner.start(), learner.told], [(1, 2), 2])
        self.assertEqual(guess(told([BIT, THREE], [(1, 2)]), [BIT, THREE]), [(1, 2)])

    def test_links_are_followed_in_both_directions(self):
        learner = told([THREE], [(0,), (1,), (2,)])
        self.assertEqual(learner.links(0), [(0, 1, (0,), (1,)), (0, 2, (0,), (2,))])
        learner = told([THREE, THREE], [(0, 0), (1, 1), (2, 2), (0, 1)])
        self.assertEqual(learner.links(0), [(0, 1, (0, 0), (1, 1)), (0, 2, (0, 0), (2, 2))])
        self.assertEqual(learner.links(1), [(0, 1, (0, 0), (0, 1))])
        # The link of place 1 joins its values 0 and 1 wherever they are reached, and leaves 2 alone.
        self.assertEqual(guess(learner, [THREE, THREE]), [(0, 0), (0, 1), (1, 0), (1, 1), (2, 2)])

    def test_paths_of_several_links(self):
        # From value 1 of place 1 the link 0 1 is followed back, then 0 2 is followed.
        kinds = [BIT, THREE]
        learner = told(kinds, [(0, 1), (1, 1), (0, 0), (0, 2)])
        self.assertEqual(learner.links(1), [(1, 0, (0, 1), (0, 0)), (1, 2, (0, 1), (0, 2))])
        self.assertTrue(learner.has((1, 2)))
        plain = PlainLearner([NIM, FOUR])
        learner = Learner(NIM, FOUR)
        for row in ((0, 0), (3, 3), (3, 1), (3, 2), (2, 2), (1, 0), (0, 1)):
            if not learner.has(row):
                learner.tell(row)
                plain.tell(row)
        self.assertEqual([learner.links(0), learner.links(1)], plain.links)

    def test_without_places(self):
        learner = Learner()
        self.assertIs(learner.has(()), False)
        learner.tell(())
        self.assertEqual([learner.has(()), learner.start(), learner.told], [True, (), 1])
        self.assertRaises(Known, learner.tell, ())

    def test_equal_calls(self):
        learner = told([BIT, BIT, BIT], EVEN_ROWS)
        self.assertEqual([learner.has((1, 1, 0)) for _ in range(3)], [True] * 3)
        self.assertEqual(learner.links(1), learner.links(1))


class Wrong(unittest.TestCase):
    def test_any_value(self):
        for kinds in ([], [BIT], [BIT, BIT], [THREE, ONE, FOUR]):
            for begin in (None, (0,) * len(kinds)):
                learner = told(kinds, [] if begin is None else [begin])
                for thing in any_values():
                    if not plain_row(kinds, thing):
                        self.assertIs(learner.has(thing), False)
                        with self.assertRaises(BadRow) as caught:
                            learner.tell(thing)
                        self.assertEqual(repr(caught.exception.row), repr(thing))
                self.assertEqual([learner.start(), learner.told], [begin, 0 if begin is None else 1])

    def test_known_rows(self):
        learner = told([BIT, BIT, BIT], EVEN_ROWS)
        before = [learner.told] + [learner.links(place) for place in range(3)]
        for row in EVEN_ROWS:
            with self.assertRaises(Known) as caught:
                learner.tell(row)
            self.assertEqual(caught.exception.row, row)
        self.assertRaises(BadRow, learner.tell, (True, False, True))
        self.assertEqual([learner.told] + [learner.links(place) for place in range(3)], before)
        learner.tell((0, 0, 1))

    def test_places(self):
        for kinds in ([], [BIT], [BIT, BIT, BIT]):
            for learner in (Learner(*kinds), told(kinds, [(0,) * len(kinds)])):
                for thing in wrong_places(len(kinds)):
                    with self.assertRaises(BadPlace) as caught:
                        learner.links(thing)
                    self.assertEqual(repr(caught.exception.place), repr(thing))

    def test_lists_are_new(self):
        learner = told([BIT, BIT], [(0, 0), (1, 1)])
        learner.links(0).append(None)
        learner.links(1).clear()
        self.assertEqual(learner.links(0), [(0, 1, (0, 0), (1, 1))])
        wrong = [0, [1]]
        with self.assertRaises(BadRow) as caught:
            learner.tell(wrong)
        wrong[1].append(HUGE)
        self.assertEqual(caught.exception.row, [0, [1]])


class Learn(unittest.TestCase):
    def test_until_nothing_is_found(self):
        rows = list(EVEN_ROWS)
        asked = []

        def find(learner):
            asked.append(learner)
            missing = [row for row in rows if not learner.has(row)]
            return missing[-1] if missing else None

        learner = learn([BIT, BIT, BIT], find)
        self.assertIsInstance(learner, Learner)
        self.assertTrue(all(one is learner for one in asked))
        self.assertEqual(len(asked), learner.told + 1)
        self.assertEqual(learner.start(), EVEN_ROWS[-1])
        self.assertEqual(guess(learner, [BIT, BIT, BIT]), EVEN_ROWS)

    def test_nothing_at_all(self):
        learner = learn((BIT, BIT), lambda _: None)
        self.assertEqual([learner.told, learner.start()], [0, None])

    def test_errors(self):
        with self.assertRaises(Known) as caught:
            learn([BIT], lambda _: (1,))
        self.assertEqual(caught.exception.row, (1,))
        for thing in ([1], (True,), (2,), "1", 1, False, ()):
            self.assertRaises(BadRow, learn, [BIT], lambda _: thing)

        class Odd(Exception):
            pass

        def find(learner):
            raise Odd()

        self.assertRaises(Odd, learn, [BIT], find)

    def test_kinds_are_copied(self):
        kinds = [BIT, BIT]
        learner = learn(kinds, lambda one: (0, 1) if one.told == 0 else None)
        kinds.pop()
        self.assertTrue(learner.has((0, 1)))
        self.assertEqual(copy.copy(kinds), [BIT])


class SmallSets(unittest.TestCase):
    def test_few_rows_are_enough(self):
        for at, (kinds, rows) in enumerate(small_sets()):
            closed = ClosedSet.of_rows(kinds, rows)
            for order in (rows, rows[::-1], [rows[place] for place in shuffled(len(rows), at)]):
                learner = told(kinds, order)
                self.assertEqual(guess(learner, kinds), rows)
                self.assertLessEqual(learner.told, most_rows(closed) if rows else 0)

    def test_as_the_document_says(self):
        # Also rows that no closed set smaller than all has, and rows that are told without a pattern.
        for seed, kinds in enumerate([[BIT] * 3, [LATCH] * 3, [odd_kind(3, 5), LATCH], [FOUR, odd_kind(3, 4)],
                                      [NIM, NIM], [odd_kind(4, 1)] * 2, [ONE, THREE, BIT], [FOUR]] * 3):
            plain, learner, known = PlainLearner(kinds), Learner(*kinds), []
            rows = all_rows(kinds)
            for at in shuffled(len(rows), seed):
                if not learner.has(rows[at]):
                    learner.tell(rows[at])
                    plain.tell(rows[at])
                    self.assertEqual([learner.links(place) for place in range(len(kinds))], plain.links)
                    found = guess(learner, kinds)
                    self.assertEqual(found, [row for row in rows if plain.walk(row)[0] is None])
                    self.assertTrue(set(known) <= set(found), "the guess lost a row")
                    self.assertIn(rows[at], found)
                    known = found
            self.assertEqual(known, rows)
            self.assertEqual(learner.told, 1 + sum(len(links) for links in plain.links))

    def test_the_guess_is_within_the_closure(self):
        for seed, kinds in enumerate([[BIT] * 4, [LATCH] * 3, [THREE, THREE], [odd_kind(3, 5), FOUR]]):
            source = numbers(seed)
            rows = [tuple(next(source) % kind.size for kind in kinds) for _ in range(4)]
            learner = told(kinds, rows)
            self.assertTrue(set(guess(learner, kinds)) <= set(plain_closure(kinds, rows)))


class LargeSets(unittest.TestCase):
    def test_learners_know_large_sets(self):
        for seed, kind in enumerate((FOUR, NIM, odd_kind(4, 1), THREE, LATCH)):
            kinds = [kind] * 12
            closed = ruled(ClosedSet.full(*kinds), random_rules(kinds, 5, seed))
            source = numbers(seed)

            def find(learner):
                for _ in range(30):
                    row = closed.after(tuple(next(source) % kind.size for _ in kinds)) or closed.greatest()
                    if not learner.has(row):
                        return row
                return next((row for row in certificate_rows(closed) if not learner.has(row)), None)

            learner, many = calls_of(lambda: learn(kinds, find))
            self.assertLess(many, 300000)
            self.assertLessEqual(learner.told, most_rows(closed))
            self.assertTrue(all(learner.has(row) for row in certificate_rows(closed)))
            for _ in range(50):
                row = closed.after(tuple(next(source) % kind.size for _ in kinds)) or closed.least()
                self.assertTrue(learner.has(row))
                other = row[:5] + (next(source) % kind.size,) + row[6:]
                self.assertIs(learner.has(other), closed.has(other))
            self.assertIs(difference(closed, closed), None)


if __name__ == "__main__":
    unittest.main()
