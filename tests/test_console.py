"""Promise [17], interface keptbythree.console."""

import re
import unittest

from keptbythree import console as module
from keptbythree.console import Console
from keptbythree.constraints import Equal, Fixed, Table
from keptbythree.errors import (BadCommand, BadConstraint, BadOrder, BadRow, DuplicateName, Full, KindsDiffer, NotClosed,
                                NothingLeft, UnknownName, UnknownNumber, WrongState)
from keptbythree.kinds import Kind
from keptbythree.store import Store
from plain_store import outcome
from samples import BIT, any_values, numbers
from test_store import seen


def ready(*commands):
    """A console with kinds b and t, variables x y of kind b and z of kind t, after these commands."""
    console = Console()
    for command in ("kind b cyclic 2", "kind t cyclic 3", "declare b x y", "declare t z", *commands):
        console.run(command)
    return console


class Test(unittest.TestCase):
    def fails(self, wanted, fields, console, command):
        before = seen(console.store())
        with self.assertRaises(wanted) as caught:
            console.run(command)
        self.assertIs(type(caught.exception), wanted, command)
        self.assertEqual(repr(vars(caught.exception)), repr(fields))
        self.assertEqual(seen(console.store()), before)

    def bad(self, console, *commands):
        for command in commands:
            self.fails(BadCommand, {}, console, command)


class Interface(Test):
    def test_all_that_is_listed(self):
        self.assertEqual(Console.__module__, module.__name__)
        self.assertTrue({"run", "store"} <= set(vars(Console)))
        console = Console()
        self.assertIsInstance(console.store(), Store)
        self.assertIs(console.store(), console.store())
        self.assertEqual(console.run(command="names"), "-")

    def test_example(self):
        console = Console()
        self.assertEqual([console.run("kind b cyclic 2"), console.run("declare b x y"),
                          console.run("put x y among 01 10")], ["ok", "ok", "1"])
        self.assertEqual([console.run("solution x=1"), console.run("reasons x=1 y=1"), console.run("classes y")],
                         ["x=1 y=0", "1", "0 1"])

    def test_the_store_itself(self):
        console = ready()
        console.store().put(Fixed("x", 1))
        self.assertEqual(console.run("solution"), "x=1 y=0 z=0")
        console.run("put x y alike")
        self.assertEqual([str(one) for one in console.store().constraints().values()], ["x equals 1", "x y alike"])
        console.store().undo()
        self.assertEqual(console.run("redo"), "ok")


class KindsOfConsoles(Test):
    def test_kinds(self):
        console = Console()
        for command, kind in (("kind b cyclic 1", Kind.cyclic(1)), ("kind b cyclic 4", Kind.cyclic(4)),
                              ("kind b free 1 -", Kind.free(1, [])), ("kind b free 2 01", Kind.free(2, [0, 1])),
                              ("kind b free 3 012210012012", Kind.free(3, [0, 1, 2, 2, 1, 0, 0, 1, 2, 0, 1, 2])),
                              ("kind b free 4 " + "3" * 36, Kind.free(4, [3] * 36))):
            self.assertEqual(console.run(command), "ok")
            console.run("declare b x")
            self.assertEqual(console.store().closed_set().kinds, (kind,))
            console.run("undo")

    def test_a_new_meaning_for_later_variables(self):
        console = ready()
        console.run("kind b cyclic 4")
        console.run("declare b u")
        self.assertEqual([console.run("possible x"), console.run("possible u")], ["01", "0123"])
        # Kinds are not part of the store: undo does not take them back.
        console.run("undo")
        console.run("declare b u")
        self.assertEqual(console.run("possible u"), "0123")

    def test_what_does_not_fit(self):
        console = ready()
        self.bad(console, "kind b cyclic 0", "kind b cyclic 5", "kind b cyclic 9", "kind b cyclic 22", "kind b cyclic -",
                 "kind b cyclic x", "kind b cyclic", "kind b cyclic 2 -", "kind b cyclic 2 01", "kind b free 2 -",
                 "kind b free 2 0", "kind b free 2 012", "kind b free 2 02", "kind b free 2", "kind b free 0 -",
                 "kind b free 5 -", "kind b free 1 0", "kind b free 2 0 1", "kind b free 2 0,", "kind b free 2 +1",
                 "kind b free 4 " + "4" * 36, "kind b free 4 " + "3" * 35, "kind b free 3 0122100120123", "kind", "kind b",
                 "kind b even 2", "kind 2 cyclic 2", "kind bbbb cyclic 2", "kind B cyclic 2", "kind cyclic 2",
                 "kind b c cyclic 2", "kind b cyclic cyclic 2", "kind b Cyclic 2", "kind b free 2 01 01")
        # The kind has still its first meaning.
        console.run("declare b u")
        self.assertEqual(console.run("possible u"), "01")

    def test_unknown_kinds(self):
        console = ready()
        self.bad(console, "declare c u", "declare bb u", "declare x u", "declare", "declare b", "declare u", "declare B u",
                 "declare 2 u", "declare b U", "declare b uuuu", "declare b u v1", "declare b u -", "declare b u=1",
                 "declare c x", "declare - u")
        self.bad(Console(), "declare b x")


class Commands(Test):
    def test_declare(self):
        console = ready()
        self.assertEqual([console.run("declare b u v abc"), console.run("names")], ["ok", "x y z u v abc"])
        self.fails(DuplicateName, {"name": "x"}, console, "declare b w x w")
        self.fails(DuplicateName, {"name": "w"}, console, "declare b w w")
        self.fails(Full, {"most": 12}, console, "declare t " + " ".join("abcdefg"))

    def test_put(self):
        console = ready()
        self.assertEqual([console.run("put x y among 01 10 01"), console.run("put z equals 2"),
                          console.run("put x y x alike"), console.run("put z among -"), console.run("put z x z among 010")],
                         ["1", "2", "3", "4", "5"])
        self.assertEqual([str(one) for one in console.store().constraints().values()],
                         ["x y among 01 10", "z equals 2", "x y x alike", "z among -", "z x z among 010"])
        made = list(console.store().constraints().values())
        self.assertEqual([type(one) for one in made], [Table, Fixed, Equal, Table, Table])

    def test_errors_of_put(self):
        console = ready()
        self.fails(BadConstraint, {}, console, "put x y z x among 0000")
        self.fails(BadConstraint, {}, console, "put x u z x among -")
        self.fails(UnknownName, {"name": "u"}, console, "put x u among 00 0")
        self.fails(UnknownName, {"name": "u"}, console, "put u equals 9")
        self.fails(UnknownName, {"name": "u"}, console, "put x u z alike")
        self.fails(BadRow, {"row": (0,)}, console, "put x y among 01 0 111")
        self.fails(BadRow, {"row": (0, 2)}, console, "put x y among 01 02")
        self.fails(BadRow, {"row": (0, 1, 1)}, console, "put x y among 011 0")
        self.fails(NotClosed, {"x": (0, 0), "y": (0, 1), "z": (1, 0)}, console, "put x y among 10 01 00")
        self.fails(BadRow, {"row": (3,)}, console, "put z equals 3")
        self.fails(KindsDiffer, {"place": 0, "other": 2}, console, "put x y z alike")
        for _ in range(10):
            console.run("put x equals 0")
        self.fails(Full, {"most": 10}, console, "put x equals 1")

    def test_forms_of_put(self):
        self.bad(ready(), "put", "put x", "put x y", "put among 0", "put equals 1", "put alike", "put x alike",
                 "put x among", "put x y among", "put x among x", "put x among 0 -", "put x among - -", "put x among - 0",
                 "put x equals", "put x equals 10", "put x equals -", "put x equals x", "put x equals 1 1",
                 "put x y equals 1", "put x y alike x", "put x y alike alike", "put x y alike 0", "put x among 0 x",
                 "put x among 0.1", "put x Among 0", "put X among 0", "put xxxx among 0", "put x 1 among 0",
                 "put x among among 0", "put x y Alike", "put x equals equals 1", "put x=1", "put x within a",
                 "put x equal 1", "put x among +0", "put x equals +1", "put x1 y alike")

    def test_take(self):
        console = ready("put x equals 1", "put y equals 1", "put z equals 1")
        self.assertEqual([console.run("take 2"), list(console.store().constraints())], ["ok", [1, 3]])
        for number in (0, 2, 4, 10, 999):
            self.fails(UnknownNumber, {"number": number}, console, f"take {number}")
        self.bad(console, "take", "take 01", "take 001", "take 00", "take -1", "take +1", "take 1000", "take 1 3",
                 "take x", "take -", "take 1.", "take 0001", "take 1x", "take one")

    def test_hide_show_and_order(self):
        console = ready()
        self.assertEqual([console.run("hide x z"), console.run("names"), console.run("show z x"), console.run("names"),
                          console.run("order x y z"), console.run("names")], ["ok", "y", "ok", "y z x", "ok", "x y z"])
        console.run("hide y")
        self.fails(WrongState, {"name": "y"}, console, "hide x y")
        self.fails(WrongState, {"name": "x"}, console, "show y x")
        self.fails(WrongState, {"name": "x"}, console, "hide x x")
        self.fails(UnknownName, {"name": "u"}, console, "hide u y")
        self.fails(UnknownName, {"name": "u"}, console, "show u x")
        for command in ("order x", "order x y z", "order x x", "order x u", "order z x z"):
            self.fails(BadOrder, {}, console, command)
        for word in ("hide", "show", "order"):
            self.bad(console, word, word + " -", word + " X", word + " x 1", word + " xxxx", word + " x,z", word + " x=1")
        console.run("hide x z")
        self.assertEqual(console.run("names"), "-")

    def test_undo_and_redo(self):
        console = ready()
        self.assertEqual([console.run("undo"), console.run("names"), console.run("redo"), console.run("names")],
                         ["ok", "x y", "ok", "x y z"])
        self.fails(NothingLeft, {}, console, "redo")
        self.fails(NothingLeft, {}, Console(), "undo")
        self.bad(console, "undo 1", "redo x", "undo undo", "undo -", "Undo", "un do", "redo 0")

    def test_has(self):
        console = ready("put x y among 01 10")
        self.assertEqual([console.run("has 012"), console.run("has 002"), console.run("has 013"), console.run("has 01"),
                          console.run("has 0120"), console.run("has -"), console.run("has " + "9" * 500)],
                         ["yes"] + ["no"] * 6)
        console.run("hide x y z")
        self.assertEqual([console.run("has -"), console.run("has 0")], ["yes", "no"])
        self.bad(console, "has", "has 0 1", "has x", "has - -", "has 0-", "has +1", "has 1.0", "has 0,1", "has --")

    def test_possible(self):
        console = ready("put x y among 01 10", "put z among 0 1 2")
        self.assertEqual([console.run("possible x"), console.run("possible y x=0"), console.run("possible z y=1 x=0"),
                          console.run("possible x x=0 y=0"), console.run("possible z z=2")], ["01", "1", "012", "-", "2"])
        self.fails(UnknownName, {"name": "u"}, console, "possible u x=9")
        self.fails(UnknownName, {"name": "u"}, console, "possible x y=0 u=9 y=1".replace(" y=1", ""))
        self.fails(BadRow, {"row": (2,)}, console, "possible z y=2 u=0")
        self.bad(console, "possible", "possible x=1", "possible X", "possible x x", "possible x y=", "possible x =1",
                 "possible x y=10", "possible x y==1", "possible x y=-", "possible x y=1 y=1", "possible x y=1 y=0",
                 "possible x y=1 z", "possible -", "possible xxxx", "possible x y:1", "possible x Y=1", "possible x y=x",
                 "possible u u=1 u=1", "possible x 1=1", "possible x yyyy=1", "possible x y=+1")

    def test_solution(self):
        console = ready("put x y among 01 10")
        self.assertEqual([console.run("solution"), console.run("solution x=1"), console.run("solution z=2 y=0"),
                          console.run("solution x=0 y=0")], ["x=0 y=1 z=0", "x=1 y=0 z=0", "x=1 y=0 z=2", "-"])
        console.run("hide x")
        self.assertEqual(console.run("solution"), "x=0 y=1 z=0")
        self.assertEqual(Console().run("solution"), "-")
        self.fails(UnknownName, {"name": "u"}, console, "solution u=0 x=5")
        self.fails(BadRow, {"row": (5,)}, console, "solution x=5 u=0")
        self.bad(console, "solution x", "solution x=1 x=0", "solution -", "solution x=", "solution =", "solution x=1,y=0")

    def test_first(self):
        console = ready("put x y among 01 10")
        self.assertEqual([console.run("first 0"), console.run("first 1"), console.run("first 4"),
                          console.run("first 999")],
                         ["-", "010", "010 011 012 100", "010 011 012 100 101 102"])
        console.run("hide x y z")
        self.assertEqual([console.run("first 1"), console.run("first 0")], ["-", "-"])
        console.run("put x among -")
        self.assertEqual(console.run("first 5"), "-")
        self.bad(console, "first", "first 01", "first 1000", "first -1", "first x", "first 1 1", "first -", "first 00")

    def test_reasons(self):
        console = ready("put x y alike", "put y equals 1", "put z equals 0", "put x equals 0")
        self.assertEqual([console.run("reasons"), console.run("reasons z=1"), console.run("reasons y=0"),
                          console.run("reasons x=1 y=0")], ["1 2 4", "3", "2", "1"])
        console.run("take 4")
        self.assertEqual([console.run("reasons"), console.run("reasons z=0 x=1"), console.run("reasons x=0")],
                         ["none", "none", "1 2"])
        self.fails(UnknownName, {"name": "u"}, console, "reasons u=0")
        self.fails(BadRow, {"row": (3,)}, console, "reasons z=3 u=0")
        self.bad(console, "reasons x", "reasons x=1 x=1", "reasons none", "reasons 1")

    def test_classes(self):
        console = ready("put x y among 01 10")
        self.assertEqual([console.run("classes x"), console.run("classes y"), console.run("classes z")],
                         ["01", "0 1", "012"])
        console.run("order y z x")
        self.assertEqual([console.run("classes y"), console.run("classes x")], ["01", "0 1"])
        console.run("hide x")
        self.assertEqual(console.run("classes y"), "01")
        self.fails(WrongState, {"name": "x"}, console, "classes x")
        self.fails(UnknownName, {"name": "u"}, console, "classes u")
        console.run("put z among -")
        self.assertEqual(console.run("classes y"), "-")
        self.bad(console, "classes", "classes x y", "classes -", "classes X", "classes xxxx", "classes x=1", "classes 0")

    def test_names(self):
        self.assertEqual([ready().run("names"), Console().run("names")], ["x y z", "-"])
        self.bad(ready(), "names x", "names -", "name", "Names", "names names")


class WrongCommands(Test):
    def test_any_value(self):
        for console in (Console(), ready("put x y alike")):
            for thing in any_values():
                self.fails(BadCommand, {}, console, thing)
            self.fails(BadCommand, {}, console, ["names"])
            self.fails(BadCommand, {}, console, ("names",))

    def test_spaces_and_other_characters(self):
        console = ready("put x y alike")
        for command in ("names", "has 0", "undo", "put x equals 1", "declare b u", "solution x=1", "kind b cyclic 2"):
            self.bad(console, " " + command, command + " ", command + "\n", "\n" + command, command + "\t",
                     command.replace(" ", "  ") + " ", command.replace(" ", "\t") + "\n", command + " \n",
                     command.upper(), command + ";", command + " " + command, "'" + command + "'")
            if " " in command:
                self.bad(console, command.replace(" ", "  "), command.replace(" ", "\n"), command.replace(" ", ""),
                         command.replace(" ", " \n"), command.replace(" ", "_"))
        self.bad(console, "", " ", "  ", "\n", "-", "help", "put x\ny alike", "has\n0", "x", "a" * 4000, "0", "among",
                 "declare b\tu", "take\t1", "~", "names\n\n")


PATTERN = re.compile("|".join(form.replace("NAME", "[a-z]{1,3}").replace("NUMBER", "(0|[1-9][0-9]{0,2})") for form in (
    "kind NAME cyclic [1-4]", "kind NAME free [1-4] ([0-9]+|-)", "declare NAME( NAME)+", "(hide|show|order)( NAME)+",
    "undo|redo|names", "take NUMBER", "first NUMBER", "put( NAME)+ among (-|[0-9]+( [0-9]+)*)", "put NAME equals [0-9]",
    "put NAME( NAME)+ alike", "has ([0-9]+|-)", "possible NAME( NAME=[0-9])*", "(solution|reasons)( NAME=[0-9])*",
    "classes NAME")))


def is_command(text, kinds):
    """Whether the text has one of the forms of the document, and its kind and entries fit."""
    if not PATTERN.fullmatch(text):
        return False
    words = text.split(" ")
    given = [word.split("=")[0] for word in words if "=" in word]
    if len(set(given)) < len(given) or (words[0] == "declare" and words[1] not in kinds):
        return False
    if words[:1] + words[2:3] == ["kind", "free"]:
        size, entries = int(words[3]), words[4].replace("-", "")
        return len(entries) == size * (size - 1) ** 2 and all(int(letter) < size for letter in entries)
    return True


class RandomCommands(Test):
    """A console answers as its store does, and takes no command of another form."""

    def one_of(self, things):
        things = list(things)
        return things[next(self.source) % len(things)]

    def command(self):
        names = lambda most: " ".join(self.one_of(["x", "y", "z", "u", "v"]) for _ in range(1 + next(self.source) % most))
        row = lambda: "".join(self.one_of("001122") for _ in range(1 + next(self.source) % 3))
        rows = lambda: " ".join(row() for _ in range(1 + next(self.source) % 3))
        values = lambda: "".join(f" {self.one_of('xyzuv')}={self.one_of('0112')}" for _ in range(next(self.source) % 3))
        number = lambda: self.one_of(["0", "1", "2", "3", "12", "007", "1234"])
        return self.one_of([
            lambda: f"kind {self.one_of('bt')} cyclic {self.one_of('23')}", lambda: "kind l free 2 01",
            lambda: f"declare {self.one_of('btl')} {names(2)}", lambda: f"put {names(2)} among {rows()}",
            lambda: f"put {names(3)} alike", lambda: f"put {names(1)} equals {self.one_of('012')}",
            lambda: f"put {names(1)} equals {self.one_of('012')}", lambda: f"put {names(3)} alike",
            lambda: f"take {number()}", lambda: f"hide {names(2)}", lambda: f"show {names(2)}",
            lambda: f"order {names(5)}", lambda: "undo", lambda: "redo", lambda: "names", lambda: f"has {row()}",
            lambda: f"possible {names(1)}{values()}", lambda: f"solution{values()}", lambda: f"first {number()}",
            lambda: f"reasons{values()}", lambda: f"classes {names(1)}"])()

    def spoiled(self, command):
        """The command with a word or a character left out, doubled, exchanged or replaced."""
        words = command.split(" ")
        at = next(self.source) % len(words)
        return self.one_of([
            lambda: " ".join(words[:at] + words[at + 1:]), lambda: " ".join(words[:at] + words[at:at + 1] + words[at:]),
            lambda: " ".join(words[at:] + words[:at]), lambda: " ".join(words[::-1]),
            lambda: " ".join(words[:at] + [self.one_of(["-", "x", "7", "among", "", "x=1", "\n", "take"])] + words[at + 1:]),
            lambda: command[:at] + command[at + 1:], lambda: command[:at] + self.one_of(" \n\tX0-=") + command[at:],
            lambda: command + self.one_of([" ", " x", " 0", "\n", "0", " x=0"])])()

    def expected(self, store, kinds, text):
        """What the command is to return, found by calls of the store."""
        words = text.split(" ")
        rest = words[1:]
        given = {word[:-2]: int(word[-1]) for word in rest if "=" in word}
        row = lambda word: tuple(int(letter) for letter in word.replace("-", ""))
        written = lambda values: "".join(map(str, values)) or "-"
        listed = lambda found: " ".join(found) or "-"
        if words[0] == "kind":
            kinds[rest[0]] = Kind.cyclic(int(rest[2])) if rest[1] == "cyclic" else Kind.free(int(rest[2]), row(rest[3]))
            return "ok"
        if words[0] == "put" and "among" in words:
            at = words.index("among")
            return str(store.put(Table(*words[1:at], rows=[row(word) for word in words[at + 1:] if word != "-"])))
        if words[0] == "put":
            return str(store.put(Equal(*rest[:-1]) if rest[-1] == "alike" else Fixed(rest[0], int(rest[-1]))))
        if words[0] == "classes" and rest[0] in store.names and rest[0] in store.order:
            return listed(written(one) for one in store.closed_set().classes(store.order.index(rest[0])))
        if words[0] == "classes":
            raise WrongState(rest[0]) if rest[0] in store.names else UnknownName(rest[0])
        if words[0] == "solution":
            return listed(f"{name}={value}" for name, value in (store.solution(**given) or {}).items())
        if words[0] == "reasons":
            found = store.reasons(**given)
            return "none" if found is None else listed(map(str, found))
        ok = lambda nothing: "ok"
        return {"declare": lambda: ok(store.declare(*rest[1:], kind=kinds[rest[0]])),
                "take": lambda: ok(store.take_back(int(rest[0]))), "hide": lambda: ok(store.hide(*rest)),
                "show": lambda: ok(store.show(*rest)), "order": lambda: ok(store.arrange(rest)),
                "undo": lambda: ok(store.undo()), "redo": lambda: ok(store.redo()), "names": lambda: listed(store.order),
                "has": lambda: "yes" if store.has(*row(rest[0])) else "no",
                "possible": lambda: written(store.possible(rest[0], **given)),
                "first": lambda: listed(written(one) for one in store.closed_set().first(int(rest[0])))}[words[0]]()

    def test_commands(self):
        answers = {}
        for seed in range(25):
            self.source = numbers(seed)
            console, store, kinds = Console(), Store(), {}
            for turn in range(120):
                text = self.command() if turn >= 5 else ["kind b cyclic 2", "kind t cyclic 3", "declare b x y u",
                                                         "declare t z", "put x y among 01 10"][turn]
                if not next(self.source) % 3:
                    text = self.spoiled(text)
                found = outcome(lambda: console.run(text))
                if is_command(text, kinds):
                    self.assertEqual(found, outcome(lambda: self.expected(store, kinds, text)), text)
                else:
                    self.assertEqual(found, ("raised", "BadCommand", "[]"), text)
                answers[text.split(" ")[0], found[:2]] = True
                if turn % 8 == 0:
                    self.assertEqual([seen(console.store())[at] for at in (0, 1, 3, 4, 5, 6, 7)],
                                     [seen(store)[at] for at in (0, 1, 3, 4, 5, 6, 7)])
        self.assertGreater(len(answers), 150)


if __name__ == "__main__":
    unittest.main()
