"""A slow but plain store, in the words of the document, and random things to do with stores."""

import copy
from itertools import product

from keptbythree.constraints import Equal, Fixed, Member, Table
from keptbythree.errors import (BadConstraint, BadName, BadOrder, BadRow, Busy, DuplicateName, Full, KindsDiffer,
                                NotClosed, NothingLeft, UnknownName, UnknownNumber, WrongState)
from keptbythree.sets import ClosedSet
from samples import BIT, FOUR, LATCH, NIM, ONE, THREE, odd_kind, plain_closure, plain_missing, plain_row

KINDS = [BIT, LATCH, ONE, THREE, odd_kind(2, 1), odd_kind(3, 5), FOUR, NIM]


def made(rule):
    """The constraint of a rule: (form, names, and what belongs to it). Any other value is left as it is."""
    if not isinstance(rule, tuple) or len(rule) != 3 or not isinstance(rule[0], str):
        return rule
    form, names, rest = rule
    if form == "table":
        return Table(*names, rows=rest)
    if form == "fixed":
        return Fixed(names[0], rest)
    if form == "equal":
        return Equal(*names)
    return Member(*names, closed=ClosedSet.of_rows(*rest))


def is_allowed(rule, solution):
    """Whether a solution satisfies the rule."""
    form, names, rest = rule
    values = tuple(solution[name] for name in names)
    if form == "equal":
        return len(set(values)) == 1
    return values in {"table": rest, "fixed": [(rest,)], "member": rest[1] if form == "member" else []}[form]


class PlainStore:
    """All that can be asked of a store, found by a list of all dicts of values."""

    def __init__(self):
        self.state = {"variables": {}, "visible": [], "standing": {}, "last": 0}
        self.past, self.future, self.depth = [], [], 0

    # Each action makes a copy of all, which takes the place of the state if nothing is wrong.

    def act(self, state):
        if not self.depth:
            self.past.append(self.state)
            self.future = []
        self.state = state

    def copied(self):
        return {"variables": dict(self.state["variables"]), "visible": list(self.state["visible"]),
                "standing": dict(self.state["standing"]), "last": self.state["last"]}

    def declare(self, *names, kind):
        state = self.copied()
        for name in names:
            if type(name) is not str or not 0 < len(name) < 4 or set(name) - set("abcdefghijklmnopqrstuvwxyz"):
                raise BadName(name)
            if name in state["variables"]:
                raise DuplicateName(name)
            state["variables"][name] = kind
            state["visible"].append(name)
        if len(state["variables"]) > 12:
            raise Full(12)
        self.act(state)

    def known(self, name):
        if type(name) is not str or name not in self.state["variables"]:
            raise UnknownName(name)

    def put(self, rule):
        if not isinstance(rule, tuple) or len(rule) != 3:
            raise BadConstraint()
        for name in rule[1]:
            self.known(name)
        self.check([self.state["variables"][name] for name in rule[1]], rule)
        if len(self.state["standing"]) >= 10:
            raise Full(10)
        state = self.copied()
        state["last"] += 1
        state["standing"][state["last"]] = rule
        self.act(state)
        return state["last"]

    def check(self, kinds, rule):
        form, _, rest = rule
        if form == "table":
            for row in rest:
                if not plain_row(kinds, row):
                    raise BadRow(row)
            if plain_missing(kinds, rest):
                raise NotClosed(*plain_missing(kinds, rest))
        if form == "fixed" and not plain_row(kinds, (rest,)):
            raise BadRow((rest,))
        if form == "equal":
            for place, kind in enumerate(kinds):
                if kind.table != kinds[0].table:
                    raise KindsDiffer(0, place)
        if form == "member":
            for place in range(max(len(kinds), len(rest[0]))):
                if place >= len(kinds) or place >= len(rest[0]) or kinds[place].table != rest[0][place].table:
                    raise KindsDiffer(place, place)

    def take_back(self, number):
        if type(number) is not int or number not in self.state["standing"]:
            raise UnknownNumber(number)
        state = self.copied()
        del state["standing"][number]
        self.act(state)

    def hide(self, *names):
        state = self.copied()
        for name in names:
            self.known(name)
            if name not in state["visible"]:
                raise WrongState(name)
            state["visible"].remove(name)
        self.act(state)

    def show(self, *names):
        state = self.copied()
        for name in names:
            self.known(name)
            if name in state["visible"]:
                raise WrongState(name)
            state["visible"].append(name)
        self.act(state)

    def arrange(self, order):
        if type(order) not in (list, tuple) or not all(type(name) is str for name in order):
            raise BadOrder()
        if sorted(order) != sorted(self.state["visible"]):
            raise BadOrder()
        state = self.copied()
        state["visible"] = list(order)
        self.act(state)

    def undo(self):
        self.step(self.past, self.future)

    def redo(self):
        self.step(self.future, self.past)

    def step(self, states, others):
        if self.depth:
            raise Busy()
        if not states:
            raise NothingLeft()
        others.append(self.state)
        self.state = states.pop()

    def begin(self):
        self.depth += 1
        if self.depth == 1:
            self.kept = self.state, list(self.past), list(self.future)

    def end(self, is_error):
        self.depth -= 1
        if self.depth == 0:
            state, self.past, future = self.kept
            if is_error:
                self.state, self.future = state, future
            else:
                self.past.append(state)
                self.future = []

    # Questions

    def all_solutions(self, rules=None):
        names = list(self.state["variables"])
        rules = self.state["standing"].values() if rules is None else rules
        found = [dict(zip(names, row)) for row in product(*[range(kind.size) for kind in
                                                            self.state["variables"].values()])]
        return [solution for solution in found if all(is_allowed(rule, solution) for rule in rules)]

    def fitting(self, fixed, rules=None):
        return [solution for solution in self.all_solutions(rules)
                if all(solution[name] == value for name, value in fixed.items())]

    def rows(self):
        return sorted({tuple(solution[name] for name in self.state["visible"]) for solution in self.all_solutions()})

    def visible_kinds(self):
        return [self.state["variables"][name] for name in self.state["visible"]]

    def check_fixed(self, fixed):
        for name, value in fixed.items():
            self.known(name)
            if not plain_row([self.state["variables"][name]], (value,)):
                raise BadRow((value,))

    def possible(self, variable, **fixed):
        self.known(variable)
        self.check_fixed(fixed)
        return sorted({solution[variable] for solution in self.fitting(fixed)})

    def solution(self, **fixed):
        return next(iter(self.solutions(**fixed)), None)

    def solutions(self, **fixed):
        self.check_fixed(fixed)
        return self.fitting(fixed)

    def reasons(self, **fixed):
        self.check_fixed(fixed)
        kept = dict(self.state["standing"])
        if self.fitting(fixed):
            return None
        for number in sorted(kept, reverse=True):
            rest = [rule for other, rule in kept.items() if other != number]
            if not self.fitting(fixed, rest):
                del kept[number]
        return tuple(sorted(kept))


def outcome(function):
    """What a call returns, or the error that it raises, in a form that can be compared."""
    try:
        return "returned", function()
    except Exception as error:
        return "raised", type(error).__name__, repr(sorted(vars(error).items()))


class Actions:
    """Random actions for two stores at once, a plain one and another one. Some of them are wrong."""

    NAMES = ["x", "y", "z", "u", "vw", "abc"]

    def __init__(self, source, plain, most=4):
        self.source, self.plain, self.most = source, plain, most

    def below(self, number):
        return next(self.source) % number

    def one_of(self, things):
        things = list(things)
        return things[self.below(len(things))]

    def name(self):
        known = list(self.plain.state["variables"])
        if known and self.below(12):
            return self.one_of(known)
        return self.one_of(self.NAMES + ["", "no", "X", None, 1, ["x"]][:1 + self.below(6)])

    def constraint(self):
        names = [self.name() for _ in range(1 + self.below(3))]
        known = self.plain.state["variables"]
        kinds = [known[name] if isinstance(name, str) and name in known else BIT for name in names]
        form = self.below(8)
        if form == 0 and self.below(2) and all(isinstance(name, str) and 0 < len(name) < 4 and name.islower() for name in names):
            return "fixed", names[:1], 1 % kinds[0].size if self.below(4) else self.below(5)
        if not all(isinstance(name, str) and 0 < len(name) < 4 and name.islower() for name in names):
            return self.one_of([None, 5, "x alike", (), ["x"], True])
        if form <= 2:
            same = [name for name in known if known[name] == kinds[0]] or names
            return "equal", [names[0], *[self.one_of(same if self.below(6) else self.NAMES)
                                         for _ in range(1 + self.below(3))]], None
        rows = [tuple(self.below(kind.size) for kind in kinds) for _ in range(self.below(3))]
        # Most constraints allow the value 1 for all names, so that they leave something.
        if self.below(8):
            rows.append(tuple(1 % kind.size for kind in kinds))
        if self.below(8):
            rows = plain_closure(kinds, rows)
        if form <= 4 and plain_missing(kinds, rows) is None:
            return "member", names + ([self.one_of(self.NAMES)] if not self.below(9) else []), (kinds, rows)
        if not self.below(15):
            rows.append(tuple(self.below(5) for _ in range(1 + self.below(4))))
        return "table", names, rows[::-1]

    def action(self):
        """A pair of the name of a method and its arguments, by position and by name."""
        turn = self.below(20)
        state = self.plain.state
        if turn < 3 or not state["variables"]:
            many = min(self.below(3), max(0, self.most - len(state["variables"])))
            names = [self.one_of(self.NAMES) for _ in range(many)]
            if not self.below(12):
                names.insert(self.below(len(names) + 1), self.one_of(["", "X", None, ["x"], "abcd", ("x",), True]))
            return "declare", names, {"kind": self.one_of(KINDS)}
        if turn < 11:
            return "put", [self.constraint()], {}
        if turn < 12:
            numbers = list(state["standing"]) + [self.one_of([0, state["last"] + 1, True, None, "1", [1]])]
            return "take_back", [self.one_of(numbers)], {}
        if turn < 14:
            return "hide", [self.name() for _ in range(self.below(3))], {}
        if turn < 16:
            hidden = [name for name in state["variables"] if name not in state["visible"]]
            return "show", [self.one_of(hidden) if hidden and self.below(6) else self.name()
                            for _ in range(self.below(3))], {}
        if turn < 18:
            order = sorted(state["visible"], key=lambda _: self.below(1000))
            wrong = [order[1:], order + ["no"], order + order[:1], "x", None, [[]], [None] * len(order)]
            return "arrange", [tuple(order) if self.below(2) else order] if self.below(8) else [self.one_of(wrong)], {}
        return ("undo" if turn < 19 else "redo"), [], {}

    def fixed(self):
        """Keywords, most of them right."""
        known = self.plain.state["variables"]
        values = {}
        for _ in range(self.below(3)):
            name = self.one_of([*known] * 9 + ["q", "xy"])
            values[name] = self.below(known[name].size if name in known else 4)
            if not self.below(25):
                values[name] = self.one_of([True, None, 4, -1, "0", [0], (0,)])
        return values


def done(store, plain, action):
    """The outcomes of an action with both stores."""
    name, given, named = copy.copy(action)
    if name == "put":
        return outcome(lambda: store.put(made(given[0]))), outcome(lambda: plain.put(given[0]))
    if name == "arrange" and isinstance(given[0], tuple):
        return outcome(lambda: setattr(store, "order", given[0])), outcome(lambda: plain.arrange(given[0]))
    return (outcome(lambda: getattr(store, name)(*given, **named)),
            outcome(lambda: getattr(plain, name)(*given, **named)))
