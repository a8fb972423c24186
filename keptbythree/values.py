"""What counts as an integer, as a value of a kind and as a name, and copies of any value."""


def is_integer(thing):
    """Whether the thing, any value, is an integer; True and False are none."""
    return isinstance(thing, int) and not isinstance(thing, bool)


def is_value(thing, size):
    """Whether the thing, any value, is a value of a kind of this size."""
    return is_integer(thing) and 0 <= thing < size


def is_name(thing):
    """Whether the thing, any value, is a name: a string of one to three letters from a to z."""
    return isinstance(thing, str) and 1 <= len(thing) <= 3 and all(["a" <= letter <= "z" for letter in thing])


def copied(thing):
    """The same value, in which every list is new."""
    # A list of what is to be done takes the place of recursion, so that no depth is too much.
    done = []
    todo = [(thing, False)]
    while todo:
        part, is_open = todo.pop()
        if not isinstance(part, (list, tuple)):
            done.append(part)
        elif is_open:
            begin = len(done) - len(part)
            items = done[begin:]
            del done[begin:]
            done.append(items if isinstance(part, list) else tuple(items))
        else:
            todo.append((part, True))
            todo.extend([(item, False) for item in reversed(part)])
    return done[0]
