"""Small cases with all their plans and axioms, found slowly, once for all tests."""

import functools

from tests import papers, slow
from tests.samples import EVERY, ONE, PLAIN, THREE, TWO, keen_case, some_case

LATE, EARLY = ((TWO, None),), (((0, 0, 0), TWO),)
EMPTY = (((), ()), (), {}, "steady")


def pack(name, version=ONE, needs=(), peers=(), bars=(), features=(), defaults=(), files=()):
    return name, version, needs, peers, bars, features, defaults, files


def asked(*names):
    return tuple((name, EVERY, (), True) for name in names)


def case_of(packs, wish, withdrawn=(), lock=None, mode="newest"):
    return (tuple(sorted(packs)), withdrawn), wish, lock or {}, mode


def loud_pack(version, also, extras, defaults):
    return pack("a", version, features=(("f", also, ()), ("g", (), extras)), defaults=defaults)


def told_cases():
    """Return cases told by hand: each has something that chance brings seldom."""
    own = pack("a", needs=(("a", LATE, (), True),)), pack("a", TWO, (("a", LATE, ("f",), False),), features=(("f", (), ()),))
    ring = [pack("a", needs=asked("b")), pack("b", needs=asked("a")), pack("c", needs=asked("b")), pack("c", TWO)]
    locked = {"a": (ONE, ()), "b": (ONE, ())}
    loud = [loud_pack(ONE, ("g",), asked("b"), ("f",)), loud_pack(TWO, ("f", "g"), (("b", LATE, ("x",), False),), ("f", "g")),
            pack("b"), pack("b", TWO, features=(("x", (), ()), ("y", (), ())), defaults=("y",))]
    shared = [pack(name, version, files=((path, ""),)) for name in "abc" for version, path in ((ONE, "p"), (TWO, "p/q"))]
    apart = [pack(name, version, bars=((other, EVERY),)) for name, other in ("ab", "bc", "ca") for version in (ONE, TWO)]
    spent = [pack("a"), pack("a", TWO), pack("b", needs=(("a", EARLY, (), True),))]
    return [
        EMPTY, case_of([], asked("a")), case_of([pack("a")], asked("b")), case_of([pack("a", needs=asked("b"))], asked("a")),
        case_of(own, asked("a")), case_of(own[:1], asked("a")), case_of(ring, asked("c")),
        case_of(ring, asked("c"), lock=locked, mode="steady"), case_of(ring, (), lock=locked, mode="steady"),
        case_of(loud, (("a", EVERY, ("g",), True),)), case_of(loud, (("a", EVERY, (), False),)),
        case_of(loud, (("a", EVERY, (), False), ("b", EVERY, (), False)), mode="oldest"),
        case_of(shared, asked("a")), case_of(shared, asked("a", "b", "c")), case_of(apart, asked("a", "b")),
        case_of(apart, asked("b", "c", "a")), case_of(spent, asked("a", "b"), (("a", ONE),)),
        case_of(spent, asked("a", "b"), (("a", ONE),), {"a": (ONE, ())}), case_of(spent, asked("a"), (("a", TWO),)),
        case_of([pack("a", peers=(("b", LATE),)), pack("b"), pack("b", TWO)], asked("a", "b")),
        case_of([pack("a", peers=(("b", LATE),)), pack("b"), pack("b", TWO)], asked("a")),
        case_of([pack("a", THREE), pack("b", needs=(("a", (), (), True),))], asked("b")),
        case_of([pack("a", bars=(("a", EARLY),)), pack("a", TWO, bars=(("a", EARLY),))], asked("a")),
    ]


@functools.lru_cache(maxsize=None)
def cases():
    """Return a list of cases of which all plans can be listed in little time."""
    found = told_cases() + [some_case(seed) for seed in range(150)] + [keen_case(seed) for seed in range(150)]
    return [case for case in found if slow.ways(case) <= 70]


@functools.lru_cache(maxsize=None)
def plans_of(at):
    """Return all plans of the case with an index, each one ahead of those behind it."""
    return slow.plans(cases()[at])


@functools.lru_cache(maxsize=None)
def axioms_of(at):
    """Return the dict from the names of all axioms but loops of the case with an index to their clauses."""
    return papers.axioms(cases()[at])


def rows():
    """Return a list of (case, plans, axioms), the last two being shared by all tests."""
    return [(case, plans_of(at), axioms_of(at)) for at, case in enumerate(cases())]
