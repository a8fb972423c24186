"""The commands of a console: strings of words, which act on a store and on named kinds, and are answered by strings."""

from keptbythree.constraints import Equal, Fixed, Table
from keptbythree.errors import BadCommand, BadEntries, BadSize, UnknownName, WrongState
from keptbythree.kinds import Kind
from keptbythree.values import is_name

_DONE = "ok"
# How an empty list or row is written.
_NOTHING = "-"
_LONGEST_NUMBER = 3


def _check(is_right):
    """Raises an error if the command has none of the forms."""
    if not is_right:
        raise BadCommand()


def _names(words):
    """One or more names."""
    _check(words and all([is_name(word) for word in words]))
    return words


def _digits(word):
    """The values that a word of one or more digits gives."""
    _check(word and all([letter in "0123456789" for letter in word]))
    return tuple([int(letter) for letter in word])


def _value(word):
    """The value that a single digit gives."""
    _check(len(word) == 1)
    return _digits(word)[0]


def _number(words):
    """The number that is the only word."""
    _check(len(words) == 1 and len(words[0]) <= _LONGEST_NUMBER)
    digits = _digits(words[0])
    _check(digits[0] != 0 or len(digits) == 1)
    return int(words[0])


def _given(words):
    """The values of names, from words that give one each."""
    values = {}
    for word in words:
        name, sign, value = word.partition("=")
        _check(sign and is_name(name) and name not in values)
        values[name] = _value(value)
    return values


def _written(values):
    """How the values of a row or of a list are written."""
    return "".join([str(value) for value in values]) or _NOTHING


def _listed(words):
    """How a list of words is written."""
    return " ".join(words) or _NOTHING


def _kind(store, kinds, words):
    _check(len(words) >= 3 and is_name(words[0]))
    try:
        kinds[words[0]] = _kind_of(words[1:])
    except (BadSize, BadEntries):
        raise BadCommand() from None
    return _DONE


def _kind_of(words):
    """The kind with this form, size and entries."""
    size = _value(words[1])
    if words[0] == "cyclic":
        _check(len(words) == 2)
        return Kind.cyclic(size)
    _check(words[0] == "free" and len(words) == 3)
    return Kind.free(size, () if words[2] == _NOTHING else _digits(words[2]))


def _declare(store, kinds, words):
    names = _names(words[1:])
    _check(words[0] in kinds)
    kind = kinds[words[0]]
    store.declare(*names, kind=kind)
    return _DONE


def _put(store, kinds, words):
    return str(store.put(_constraint(words)))


def _constraint(words):
    """The constraint with this form, from the names on."""
    many = 0
    while many < len(words) and is_name(words[many]):
        many += 1
    names = _names(words[:many])
    form, rest = words[many:many + 1], words[many + 1:]
    if form == ["among"]:
        rows = _rows(rest)
        return Table(*names, rows=rows)
    if form == ["equals"]:
        _check(many == 1 and len(rest) == 1)
        return Fixed(names[0], _value(rest[0]))
    _check(form == ["alike"] and many >= 2 and not rest)
    return Equal(*names)


def _rows(words):
    """The rows of a table, one for each word."""
    _check(words)
    return [] if words == [_NOTHING] else [_digits(word) for word in words]


def _take(store, kinds, words):
    store.take_back(_number(words))
    return _DONE


def _hide(store, kinds, words):
    names = _names(words)
    store.hide(*names)
    return _DONE


def _show(store, kinds, words):
    names = _names(words)
    store.show(*names)
    return _DONE


def _order(store, kinds, words):
    store.arrange(_names(words))
    return _DONE


def _undo(store, kinds, words):
    _check(not words)
    store.undo()
    return _DONE


def _redo(store, kinds, words):
    _check(not words)
    store.redo()
    return _DONE


def _has(store, kinds, words):
    _check(len(words) == 1)
    values = () if words == [_NOTHING] else _digits(words[0])
    return "yes" if store.has(*values) else "no"


def _possible(store, kinds, words):
    name = _names(words[:1])[0]
    values = _given(words[1:])
    return _written(store.possible(name, **values))


def _solution(store, kinds, words):
    values = _given(words)
    solution = store.solution(**values)
    return _listed([] if solution is None else [f"{name}={value}" for name, value in solution.items()])


def _first(store, kinds, words):
    return _listed([_written(row) for row in store.closed_set().first(_number(words))])


def _reasons(store, kinds, words):
    values = _given(words)
    reasons = store.reasons(**values)
    return "none" if reasons is None else _listed([str(number) for number in reasons])


def _classes(store, kinds, words):
    _check(len(words) == 1)
    name = _names(words)[0]
    if name not in store.names:
        raise UnknownName(name)
    if name not in store.order:
        raise WrongState(name)
    return _listed([_written(values) for values in store.closed_set().classes(store.order.index(name))])


def _visible(store, kinds, words):
    _check(not words)
    return _listed(store.order)


_ACTIONS = {"kind": _kind, "declare": _declare, "put": _put, "take": _take, "hide": _hide, "show": _show,
            "order": _order, "undo": _undo, "redo": _redo, "has": _has, "possible": _possible, "solution": _solution,
            "first": _first, "reasons": _reasons, "classes": _classes, "names": _visible}


def answer(store, kinds, command):
    """The answer to a command, any value. The kinds, by their names, may get more."""
    _check(isinstance(command, str))
    words = command.split(" ")
    _check("" not in words and words[0] in _ACTIONS)
    action = _ACTIONS[words[0]]
    return action(store, kinds, words[1:])
