"""What counts as an integer and as a value of a kind, and copies of any value."""


def is_integer(thing):
    """Whether the thing, any value, is an integer; True and False are none."""
    return isinstance(thing, int) and not isinstance(thing, bool)


def is_value(thing, size):
    """Whether the thing, any value, is a value of a kind of this size."""
    return is_integer(thing) and 0 <= thing < size


def copied(thing):
    """The same value, in which every list is new."""
    # A list of what is to be done takes the place of recursion, so that no depth is too much.
    done = []
    todo = [(thing, False)]
    while todo:
        part, is_open = todo.pop()
        if not isinstance(part, (list, tuple)):
            done.append(part)
        elif is_open:
            begin = len(done) - len(part)
            items = done[begin:]
            del done[begin:]
            done.append(items if isinstance(part, list) else tuple(items))
        else:
            todo.append((part, True))
            todo.extend([(item, False) for item in reversed(part)])
    return done[0]
