"""Promises [1] and [3]: stores of twelve variables, whose solutions are never listed."""

import unittest
from itertools import islice

from keptbythree.constraints import Equal, Fixed, Member, Table
from keptbythree.console import Console
from keptbythree.joins import hidden
from keptbythree.learners import learn
from keptbythree.orders import reordered
from keptbythree.restrict import equated, fixed
from keptbythree.sets import ClosedSet
from keptbythree.store import Store
from samples import BIT, FOUR, LATCH, NIM, THREE, calls_of, numbers, odd_kind, random_rules, ruled, shuffled

NAMES = tuple("abcdefghijkl")
ODD = odd_kind(4, 1)
POOLS = [[FOUR], [ODD], [NIM], [BIT, THREE], [LATCH, odd_kind(3, 6)], [NIM, ODD, BIT]]
# More calls than any question needs for twelve variables; a listing of the solutions would take more than that.
MOST_CALLS = 200000


def kinds_of(seed):
    source = numbers(seed)
    pool = POOLS[seed % len(POOLS)]
    return [pool[next(source) % len(pool)] for _ in range(12)]


def declared(kinds):
    store = Store()
    for name, kind in zip(NAMES, kinds):
        store.declare(name, kind=kind)
    return store


def table(rule):
    places, rows = rule
    return Table(*[NAMES[place] for place in places], rows=rows)


class Large(unittest.TestCase):
    def light(self, function):
        result, many = calls_of(function)
        self.assertLess(many, MOST_CALLS)
        return result

    def stores(self, many):
        """Seeds, kinds, rules, stores with a table for each rule, and the sets of their solutions."""
        for seed in range(many):
            kinds = kinds_of(seed)
            rules = random_rules(kinds, 2 + seed % 7, seed)
            store = declared(kinds)
            for rule in rules:
                store.put(table(rule))
            yield seed, kinds, rules, store, ruled(ClosedSet.full(*kinds), rules)


class Sets(Large):
    def test_all_values(self):
        store = declared([FOUR] * 12)
        self.assertEqual(self.light(store.closed_set), ClosedSet.full(*[FOUR] * 12))
        self.assertEqual(self.light(lambda: list(islice(store.solutions(), 300)))[299],
                         dict(zip(NAMES, (0,) * 7 + (1, 0, 2, 2, 3))))
        self.assertEqual(self.light(lambda: store.solution(f=2, l=3)), dict(zip(NAMES, (0,) * 5 + (2,) + (0,) * 5 + (3,))))
        self.assertIs(self.light(lambda: store.reasons(a=1, b=2, c=3)), None)
        self.assertEqual(self.light(lambda: store.possible("l", k=1)), [0, 1, 2, 3])
        self.assertIs(self.light(lambda: store.has(*[3] * 12)), True)

    def test_sets_of_tables(self):
        for seed, _, _, store, closed in self.stores(18):
            self.assertEqual(self.light(store.closed_set).certificate(), closed.certificate())
            self.assertEqual(self.light(store.solution), dict(zip(NAMES, closed.least())))
            found = self.light(lambda: list(islice(store.solutions(), 40)))
            self.assertEqual([tuple(one.values()) for one in found], closed.first(40))
            for place, name in enumerate(NAMES):
                expected = sorted(value for group in closed.classes(place) for value in group)
                self.assertEqual(self.light(lambda: store.possible(name)), expected)

    def test_hidden_variables(self):
        for seed, _, _, store, closed in self.stores(18):
            order = shuffled(12, seed)
            names = [NAMES[place] for place in order]
            store.hide(*names[:seed % 10])
            store.arrange(names[seed % 10:])
            expected = hidden(reordered(closed, order), *range(seed % 10))
            self.assertEqual(self.light(store.closed_set).certificate(), expected.certificate())
            self.assertEqual(store.solution(), dict(zip(NAMES, closed.least())))
            store.show(*names[:seed % 10][::-1])
            self.assertEqual(store.closed_set().certificate(),
                             reordered(closed, order[seed % 10:] + order[:seed % 10][::-1]).certificate())

    def test_all_forms_of_constraints(self):
        for seed, kinds, rules, store, closed in self.stores(14):
            if len(rules) == 8:
                continue
            last = [place for place in range(12) if kinds[place] == kinds[seed % 12]][-1]
            store.put(Equal(NAMES[seed % 12], NAMES[last]))
            order = shuffled(12, seed)
            other = reordered(ruled(ClosedSet.full(*kinds), random_rules(kinds, 2, seed)), order)
            store.put(Member(*[NAMES[at] for at in order], closed=other))
            expected = ruled(equated(closed, seed % 12, last), random_rules(kinds, 2, seed))
            self.assertEqual(self.light(store.closed_set).certificate(), expected.certificate())
            store.put(Fixed("h", 0))
            self.assertEqual(self.light(store.closed_set).certificate(), fixed(expected, 7, 0).certificate())
            store.take_back(len(rules) + 1)
            rest = ruled(fixed(closed, 7, 0), random_rules(kinds, 2, seed))
            self.assertEqual(self.light(store.closed_set).certificate(), rest.certificate())
            store.undo()
            store.undo()
            self.assertEqual(self.light(store.closed_set).certificate(), expected.certificate())


class Effort(Large):
    """Counts of calls in place of a clock."""

    def test_what_is_known_is_kept(self):
        for _, _, _, store, _ in self.stores(6):
            store.solution()
            for question in (store.solution, lambda: store.possible("f"), lambda: next(store.solutions())):
                self.assertLess(calls_of(question)[1], 200)
            store.closed_set()
            self.assertLess(calls_of(lambda: store.has(*[0] * 12))[1], 200)
            self.assertLess(calls_of(store.closed_set)[1], 20)
            # A further constraint is imposed on what is known, and undo leads back to it.
            store.put(Fixed("c", 0))
            self.assertLess(calls_of(store.solution)[1], 2000)
            store.undo()
            self.assertLess(calls_of(store.solution)[1], 200)


class Histories(Large):
    def test_unlike_histories(self):
        for seed, kinds, rules, store, closed in self.stores(18):
            other = Store()
            for place in shuffled(12, seed):
                other.declare(NAMES[place], kind=kinds[place])
            with other.batch():
                other.hide(*NAMES[:5])
                other.put(table(random_rules(kinds, 1, seed + 50)[0]))
            for at in shuffled(len(rules), seed + 1):
                other.put(table(rules[at]))
                self.assertEqual(other.closed_set().width, 7)
                if at % 2:
                    other.undo()
                    other.redo()
            other.take_back(1)
            other.show(*NAMES[:5])
            other.arrange(list(NAMES))
            self.assertEqual(other.closed_set().certificate(), store.closed_set().certificate())
            self.assertTrue(other.closed_set() == store.closed_set() == closed)

    def test_a_console(self):
        for _, kinds, rules, store, _ in list(self.stores(12))[::4]:
            console = Console()
            for name, kind in zip(NAMES, kinds):
                entries = "".join(str(kind.table[x][y][z]) for x in range(kind.size) for y in range(kind.size)
                                  for z in range(kind.size) if x != y and y != z)
                console.run(f"kind k free {kind.size} {entries}")
                console.run(f"declare k {name}")
            for constraint in store.constraints().values():
                console.run(f"put {constraint}")
            self.assertEqual(console.store().closed_set(), store.closed_set())
            self.assertEqual(self.light(lambda: console.run("first 2")),
                             " ".join("".join(map(str, row)) for row in store.closed_set().first(2)))
            for name in NAMES:
                self.assertEqual(console.run(f"possible {name}"), "".join(map(str, store.possible(name))))


class Reasons(Large):
    def test_none_can_be_left_out(self):
        seen = {}
        for seed, kinds, rules, store, closed in self.stores(36):
            source = numbers(seed)
            store.put(Equal("a", [name for name, kind in zip(NAMES, kinds) if kind == kinds[0]][-1]))
            for many in range(1, 6):
                places = shuffled(12, next(source))[:many]
                values = {NAMES[place]: next(source) % kinds[place].size for place in places}
                reasons = self.light(lambda: store.reasons(**values))
                self.assertIs(reasons is None, store.solution(**values) is not None)
                if reasons is not None:
                    seen[len(reasons)] = True
                    self.check(kinds, store, values, reasons)
        self.assertGreaterEqual(len(seen), 2)

    def check(self, kinds, store, values, reasons):
        """The reasons exclude the values, and none can be left out; the greatest numbers were left out first."""
        standing = store.constraints()
        for left in (None, *reasons):
            other = declared(kinds)
            for number in reasons:
                if number != left:
                    other.put(standing[number])
            self.assertIs(other.solution(**values) is None, left is None)
        for number in standing:
            if number not in reasons:
                other = declared(kinds)
                for before in standing:
                    if before < number or (before in reasons and before > number):
                        other.put(standing[before])
                self.assertIs(other.solution(**values), None)

    def test_ten_constraints(self):
        store = declared([FOUR] * 12)
        for at in range(9):
            store.put(Table(NAMES[at], NAMES[at + 1], rows=[(value, (value + 1) % 4) for value in range(4)]))
        store.put(Equal("k", "l"))
        self.assertEqual(self.light(lambda: store.reasons(a=0, j=2)), tuple(range(1, 10)))
        self.assertEqual(self.light(lambda: store.reasons(a=0, d=0)), (1, 2, 3))
        self.assertEqual(self.light(lambda: store.reasons(a=0, j=1, k=1, l=2)), (10,))
        self.assertEqual(self.light(lambda: store.possible("j", a=3)), [0])


class Learners(Large):
    def test_a_learner_knows_the_set_of_a_store(self):
        for _, kinds, _, store, closed in list(self.stores(12))[::3]:
            rows = [row for entry in closed.certificate() for group in entry for _, row in group]

            def find(learner):
                return next((row for row in rows[::-1] if not learner.has(row)), None)

            learner = self.light(lambda: learn(kinds, find))
            for found in islice(store.solutions(), 60):
                self.assertTrue(learner.has(tuple(found.values())))
            most = 1 + sum(sum(len(group) - 1 for group in closed.classes(place)) for place in range(12))
            self.assertLessEqual(learner.told, most)


if __name__ == "__main__":
    unittest.main()
