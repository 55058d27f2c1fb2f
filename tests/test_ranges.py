"""[13] and [5]: ranges, against asking version by version where something can change."""

import itertools
import random
import unittest

from packsworn.ranges import (all_of, is_in, is_range, is_within, just, kept, least_in, meet, none_of,
                              parting_version, range_of, rest, stretch, union, without)
from packsworn.versions import after
from tests.kinds import bent, calls_alike, same, values

FIRST, LAST = (0, 0, 0), (999999, 999999, 999999)
# Where stretches begin and end in the tests; the neighbours of each are asked, too.
EDGES = [FIRST, (0, 0, 1), (0, 0, 2), (0, 1, 0), (1, 0, 0), (1, 0, 1), (1, 2, 0), (2, 0, 0), (999999, 999999, 998000),
         (999999, 999999, 999998), LAST]


def asked():
    """Return all versions that may tell two ranges with these edges apart."""
    found = set(EDGES)
    for edge in EDGES:
        if after(edge) is not None:
            found.add(after(edge))
    found.update([(0, 0, 999999), (0, 999999, 999999), (1, 1, 999999), (1, 999999, 999999), (5, 5, 5),
                  (999999, 999999, 999997), (999999, 999999, 997999)])
    return sorted(found)


ASKED = asked()


def plainly_in(version, one):
    return any(low <= version and (high is None or version < high) for low, high in one)


def told(one):
    return {version for version in ASKED if plainly_in(version, one)}


def some_ranges(many, seed):
    """Return ranges whose stretches have ends among the edges."""
    chance = random.Random(seed)
    found = [(), ((FIRST, None),), ((FIRST, LAST),), ((LAST, None),), ((FIRST, (0, 0, 1)),),
             ((FIRST, (0, 0, 1)), ((0, 0, 2), (1, 0, 0)), (LAST, None))]
    while len(found) < many:
        ends = sorted(chance.sample(EDGES, chance.randint(0, len(EDGES))))
        pairs = list(zip(ends[::2], ends[1::2]))
        if len(ends) % 2:
            pairs.append((ends[-1], None))
        found.append(tuple(pairs))
    return found


class TestForms(unittest.TestCase):
    def test_is_range(self):
        for one in some_ranges(60, 1):
            self.assertIs(is_range(one), True, one)

    def test_is_no_range(self):
        one, two, three = (1, 0, 0), (2, 0, 0), (3, 0, 0)
        for value in (((one, one),), ((two, one),), ((one, two), (two, three)), ((two, three), (FIRST, one)),
                      ((one, None), (two, None)), ((one, None), (two, three)), (one, two), ((one,),), ((None, one),),
                      ((one, two, three),), [(one, two)], ([one, two],), (([1, 0, 0], two),), ((one, [2, 0, 0]),),
                      (((True, 0, 0), two),), ((one, (2, False, 0)),), (((1, 0), two),), ((one, True),), ((one, 0),),
                      (((1, 0, 0), (1, 0, 1000000)),), (((0, 0, -1), one),), None, "", {}, ((FIRST, None), ())):
            self.assertIs(is_range(value), False, value)

    def test_any_value(self):
        for value in values() + bent((((1, 0, 0), (1, 2, 0)), ((2, 0, 0), None))):
            self.assertIs(is_range(value), slow_is_range(value), repr(value)[:80])


class TestMaking(unittest.TestCase):
    def test_whole_and_nothing(self):
        self.assertTrue(same(none_of(), ()))
        self.assertTrue(same(all_of(), (((0, 0, 0), None),)))

    def test_just(self):
        self.assertEqual(just((1, 2, 999999)), (((1, 2, 999999), (1, 3, 0)),))
        self.assertEqual(just(LAST), ((LAST, None),))
        for version in ASKED:
            self.assertTrue(is_range(just(version)))
            self.assertEqual(told(just(version)), {version})

    def test_stretch(self):
        for low, high in itertools.product(ASKED, ASKED + [None]):
            one = stretch(low, high)
            self.assertTrue(is_range(one))
            self.assertEqual(told(one), {v for v in ASKED if low <= v and (high is None or v < high)})
        self.assertEqual([stretch((1, 0, 0), (1, 0, 0)), stretch((2, 0, 0), (1, 0, 0))], [(), ()])

    def test_range_of(self):
        self.assertEqual(range_of([]), ())
        self.assertEqual(range_of(((0, 0, 2), (0, 0, 0), (0, 0, 1), (0, 0, 0))), (((0, 0, 0), (0, 0, 3)),))
        self.assertEqual(range_of([LAST, (999999, 999999, 999998)]), (((999999, 999999, 999998), None),))
        chance = random.Random(2)
        for _ in range(100):
            some = [chance.choice(ASKED) for _ in range(chance.randint(0, 8))]
            for given in (some, tuple(some)):
                one = calls_alike(self, range_of, given)
                self.assertTrue(is_range(one))
                self.assertEqual(told(one), set(some))


class TestSets(unittest.TestCase):
    def test_is_in(self):
        for one in some_ranges(40, 3):
            for version in ASKED:
                self.assertIs(is_in(version, one), plainly_in(version, one))

    def test_two_ranges(self):
        for one, other in itertools.product(some_ranges(30, 4), some_ranges(30, 5)):
            for call, wanted in ((union, told(one) | told(other)), (meet, told(one) & told(other)),
                                 (without, told(one) - told(other))):
                found = call(one, other)
                self.assertTrue(is_range(found), (call, one, other))
                self.assertEqual(told(found), wanted, (call, one, other))
            self.assertIs(is_within(one, other), told(one) <= told(other))
            self.assertEqual(parting_version(one, other), min(told(one) ^ told(other), default=None))
            self.assertEqual(one == other, told(one) == told(other))

    def test_rest(self):
        for one in some_ranges(60, 6):
            self.assertTrue(is_range(rest(one)))
            self.assertEqual(told(rest(one)), set(ASKED) - told(one))
            self.assertEqual(rest(rest(one)), one)
        self.assertEqual([rest(()), rest((((0, 0, 0), None),)), rest(((FIRST, LAST),))],
                         [(((0, 0, 0), None),), (), ((LAST, None),)])

    def test_touching(self):
        one, two, three = (1, 0, 0), (2, 0, 0), (3, 0, 0)
        self.assertEqual(union(((one, two),), ((two, three),)), ((one, three),))
        self.assertEqual(union(((one, two),), ((two, None),)), ((one, None),))
        self.assertEqual(meet(((one, two),), ((two, three),)), ())
        self.assertEqual(without(((one, three),), ((two, None),)), ((one, two),))
        self.assertEqual(union(((one, None),), ((two, three),)), ((one, None),))

    def test_kept(self):
        for one in some_ranges(30, 7):
            given = ASKED[::-1] + ASKED[::3]
            for some in (given, tuple(given)):
                self.assertEqual(calls_alike(self, kept, some, one), tuple(sorted(told(one))))
        self.assertEqual(kept([], all_of()), ())

    def test_least(self):
        for one in some_ranges(40, 8):
            self.assertEqual(least_in(one), min(told(one), default=None))
        self.assertEqual([least_in(((LAST, None),)), parting_version(all_of(), ((FIRST, LAST),))], [LAST, LAST])

    def test_many_stretches(self):
        many = range_of([(number, 0, 0) for number in range(3000)])
        self.assertEqual([len(many), rest(rest(many)) == many, meet(many, rest(many)), union(many, rest(many))],
                         [3000, True, (), all_of()])
        self.assertEqual(parting_version(many, range_of([(number, 0, 0) for number in range(2999)])), (2999, 0, 0))


def slow_is_range(value):
    if type(value) is not tuple:
        return False
    ends = []
    for at, part in enumerate(value):
        if type(part) is not tuple or len(part) != 2:
            return False
        for place, end in enumerate(part):
            if type(end) is tuple and len(end) == 3 and all(type(n) is int and 0 <= n < 10 ** 6 for n in end):
                ends.append(end)
            elif end is None and (at, place) == (len(value) - 1, 1):
                ends.append((10 ** 6, 0, 0))
            else:
                return False
    return all(one < other for one, other in zip(ends, ends[1:]))


if __name__ == "__main__":
    unittest.main()
