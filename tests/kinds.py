"""Values of any kind, and values of which parts are exchanged, left out or added."""

import copy

from packsworn.errors import NoPack, NoVersion, PackError, Wrong


def nested(kind, depth):
    """Return a value of lists, tuples or dicts in one another."""
    value = 0
    for _ in range(depth):
        value = [value] if kind is list else (value,) if kind is tuple else {"a": value}
    return value


def values():
    """Return a list of values of all kinds that a call may meet."""
    plain = [None, True, False, 0, 1, -1, 2, 999999, 1000000, 10 ** 39, -(10 ** 39)]
    texts = ["", " ", "a", "-", "1", "1.2.3", "all", "a/b", "newest", "\n", "~", "a" * 20, "a" * 21,
             "x" * 40000, "1" * 40000, "(" * 40000, "\n" * 40000, "." * 40000, "not " * 10000,
             "1." * 20000, ".".join(["9" * 5000] * 3), "/".join(["a"] * 20000), "\\" * 200]
    things = [NoVersion(), Wrong(0), PackError(), NoPack("a", (1, 0, 0)), Wrong]
    groups = [[], (), {}, [0], (0,), {"a": 0}, {1: 2}, {(1, 0, 0): "a"}, {None: None}, {True: False},
              (1, 2, 3), [1, 2, 3], (True, 0, 0), (1, 2, 1000000), (0, 0, -1), (1, 2), (1, 2, 3, 4),
              ("a", "b"), ("b", "a"), ("a", "a"), ["a"], ("a", None), ((), ()), ((), (), {}, "newest"),
              ((((0, 0, 0), None),), None), (((0, 0, 0), None),), [((0, 0, 0), None)], ([(0, 0, 0), None],),
              nested(list, 20), nested(tuple, 20), nested(dict, 20), tuple(range(20000)), [None] * 20000,
              {number: number for number in range(9999)}, ({"a": [(), {}]}, [{}], "x")]
    return plain + texts + things + groups


def exchanges(value):
    """Return a list of values to stand in the place of another one."""
    found = [None, True, False, 0, 1, -1, "", "a", "A", (), [], {}, (0, 0, 0), (True, 0, 0), Wrong(0)]
    if isinstance(value, tuple):
        found.extend([list(value), value + value, value + (None,), value[::-1]])
    if isinstance(value, list):
        found.append(tuple(value))
    if isinstance(value, str):
        found.extend([value + "a", value + "\n", value.upper(), value.encode(), value[:-1]])
    if isinstance(value, int):
        found.extend([int(value), value + 1, str(value)])
        if value in (0, 1):
            found.append(bool(value))
    if isinstance(value, dict):
        found.append(list(value.items()))
    return found


def bent(value):
    """Return a list of values that come from one by exchanging, leaving out or adding a part."""
    found = exchanges(value)
    if isinstance(value, (tuple, list)):
        kind = type(value)
        for at, part in enumerate(value):
            ahead, behind = list(value[:at]), list(value[at + 1:])
            found.append(kind(ahead + behind))
            found.append(kind(ahead + [part, part] + behind))
            found.extend([kind(ahead + [other] + behind) for other in bent(part)])
    if isinstance(value, dict):
        for key in value:
            others = {other: value[other] for other in value if other != key}
            found.append(others)
            found.extend([dict(others, **{key: part}) for part in bent(value[key]) if isinstance(key, str)])
            found.extend([{**others, other: value[key]} for other in ("", "zz", "A", 1, None, True)])
        found.append({**value, "zz": ((1, 0, 0), ())})
    return found


def same(one, other):
    """Tell whether two values are the same, True and 1 being different."""
    if one is other:
        return True
    if type(one) is not type(other) or one != other:
        return False
    if isinstance(one, (tuple, list)):
        return all(map(same, one, other))
    if isinstance(one, dict):
        return set(one) == set(other) and all(same(one[key], other[key]) for key in one)
    return one == other


def calls_alike(test, call, *arguments):
    """Check that a call changes no argument, and tells the same when what it returned was changed; return that."""
    before = copy.deepcopy(arguments)
    first = call(*arguments)
    test.assertTrue(same(before, arguments), (call, before, arguments))
    told = copy.deepcopy(first)
    spoil(first)
    again = call(*arguments)
    test.assertTrue(same(told, again), (call, told, again))
    test.assertTrue(same(before, arguments), (call, before, arguments))
    return told


def spoil(value):
    """Change each list and dict in a value."""
    if isinstance(value, (tuple, list)):
        for part in value:
            spoil(part)
    if isinstance(value, dict):
        for key in value:
            spoil(value[key])
        value["spoilt"] = True
    if isinstance(value, list):
        value.append("spoilt")
