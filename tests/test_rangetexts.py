"""[14] and [5]: texts of ranges."""

import itertools
import random
import unittest

from packsworn.errors import NoRange, Wrong
from packsworn.ranges import all_of, is_range, just, meet, rest, stretch, union
from packsworn.rangetexts import read_range, show_range
from packsworn.versions import read_version, show_version
from tests.kinds import same, values
from tests.test_ranges import some_ranges

WORDS = ["all", "none", "1.2.3", "0.0.0", "999999.999999.999999", "from", "below", "near", "close", "not", "and",
         "or", "(", ")"]


def slow_read(words):
    """Return the range that a short row of words tells, by trying all ways to part it; None if it tells none."""
    return slow_split(words, "or", union) or slow_meet(words)


def slow_split(words, middle, call):
    for at, word in enumerate(words):
        if word == middle:
            ahead = slow_read(words[:at]) if middle == "or" else slow_meet(words[:at])
            behind = slow_meet(words[at + 1:]) if middle == "or" else slow_term(words[at + 1:])
            if ahead is not None and behind is not None:
                return (call(ahead[0], behind[0]),)
    return None


def slow_meet(words):
    return slow_split(words, "and", meet) or slow_term(words)


def slow_term(words):
    if words[:1] == ("not",):
        inner = slow_term(words[1:])
        return None if inner is None else (rest(inner[0]),)
    if words[:1] == ("(",) and words[-1:] == (")",):
        return slow_read(words[1:-1])
    return slow_atom(words)


def slow_atom(words):
    if words in (("all",), ("none",)):
        return (all_of() if words == ("all",) else (),)
    if not words or words[-1][:1] not in "0123456789" or len(words) > 2:
        return None
    version = read_version(words[-1])
    if len(words) == 1:
        return (just(version),)
    ends = {"from": None, "near": (version[0] + 1, 0, 0), "close": (version[0], version[1] + 1, 0)}
    if words[0] == "below":
        return (stretch((0, 0, 0), version),)
    if words[0] not in ends:
        return None
    high = ends[words[0]]
    return (stretch(version, None if high is None or max(high) > 999999 else high),)


class TestReading(unittest.TestCase):
    def refused(self, text, place):
        with self.assertRaises(NoRange, msg=text[:60]) as caught:
            read_range(text)
        self.assertTrue(same(caught.exception.place, place), (text[:60], caught.exception.place))

    def test_atoms(self):
        self.assertEqual([read_range("all"), read_range("none"), read_range("1.2.3")],
                         [(((0, 0, 0), None),), (), (((1, 2, 3), (1, 2, 4)),)])
        self.assertEqual([read_range("from 1.2.3"), read_range("below 1.2.3"), read_range("below 0.0.0")],
                         [(((1, 2, 3), None),), (((0, 0, 0), (1, 2, 3)),), ()])
        self.assertEqual([read_range("near 1.2.3"), read_range("close 1.2.3")],
                         [(((1, 2, 3), (2, 0, 0)),), (((1, 2, 3), (1, 3, 0)),)])

    def test_atoms_without_an_end(self):
        last = (999999, 999999, 999999)
        self.assertEqual([read_range("near 999999.1.1"), read_range("close 1.999999.1"), read_range("near 1.999999.1")],
                         [(((999999, 1, 1), None),), (((1, 999999, 1), None),), (((1, 999999, 1), (2, 0, 0)),)])
        for text in ("999999.999999.999999", "from 999999.999999.999999", "near 999999.999999.999999",
                     "close 999999.999999.999999", "not below 999999.999999.999999"):
            self.assertEqual(read_range(text), ((last, None),))

    def test_binding(self):
        self.assertEqual(read_range("not all or all"), all_of())
        self.assertEqual(read_range("not all and all"), ())
        self.assertEqual(read_range("not ( all and none )"), all_of())
        self.assertEqual(read_range("all or none and none"), all_of())
        self.assertEqual(read_range("( all or none ) and none"), ())
        self.assertEqual(read_range("1.0.0 or 2.0.0 and all or none"), read_range("2.0.0 or 1.0.0"))
        self.assertEqual(read_range("not not 1.0.0"), just((1, 0, 0)))

    def test_blanks_and_brackets(self):
        for text in ("not(1.0.0or", "all(", "(all)all", ")", "()"):
            self.assertRaises(NoRange, read_range, text)
        for text in ("(all)", " ( all ) ", "((all))", "  all  ", "not(none)", "not   (   none)", "(all)and(all)"):
            self.assertEqual(read_range(text), all_of(), text)
        self.refused("all\n", 0)
        self.refused("all \n and", 1)
        self.refused("all\tand", 0)

    def test_all_short_rows(self):
        for many in range(5):
            for words in itertools.product(WORDS, repeat=many):
                told = slow_read(words)
                if told is not None:
                    self.assertEqual(read_range(" ".join(words)), told[0], words)
                else:
                    self.assertRaises(NoRange, read_range, " ".join(words))

    def test_places(self):
        begins = beginnings(6)
        for many in range(4):
            for words in itertools.product(WORDS, repeat=many):
                if slow_read(words) is None:
                    places = [at for at in range(many) if words[:at + 1] not in begins]
                    self.refused(" ".join(words), places[0] if places else many)

    def test_some_places(self):
        for text, place in (("", 0), ("   ", 0), ("from", 1), ("from all", 1), ("from 1.2", 1), ("1.2", 0), ("x", 0),
                            ("all all", 1), ("all and", 2), ("all and or", 2), ("( all", 2), ("( all ) )", 3),
                            ("(all", 2), ("not", 1), ("not )", 1), ("all or not below", 4), ("01.2.3", 0), ("All", 0),
                            ("1.2.3(", 1), ("x" * 40000, 0), ("1" * 40000, 0), ("all;", 0), ("near 1000000.0.0", 1)):
            self.refused(text, place)

    def test_thirty_open(self):
        for opened in (["("] * 30, ["not"] * 30, ["(", "not"] * 15, ["not", "("] * 15):
            closed = [")"] * opened.count("(")
            found = read_range(" ".join(opened + ["1.0.0"] + closed))
            self.assertEqual(found, just((1, 0, 0)) if opened.count("not") % 2 == 0 else rest(just((1, 0, 0))))
            for more in ("(", "not"):
                self.refused(" ".join(opened + [more] + ["1.0.0"]), 30)
            self.refused(" ".join(opened), 30)
        self.refused("(" * 40000, 30)
        self.refused("not " * 10000, 30)

    def test_open_at_once(self):
        self.assertEqual(read_range(" and ".join(["not none"] * 40)), all_of())
        self.assertEqual(read_range(" or ".join(["(none)"] * 40)), ())
        deep = "(" * 29
        self.assertEqual(read_range(f"{deep} not none and not none and ( all ) {')' * 29}"), all_of())
        self.refused(f"{deep} not none and not ( all ) {')' * 29}", 29 + 4)

    def test_long(self):
        texts = [f"{number % 7}.{number}.0" for number in range(3000)]
        one = read_range(" or ".join(texts))
        self.assertEqual(len(one), 3000)
        self.assertEqual(read_range(" and ".join([f"not {text}" for text in texts[:2500]])),
                         rest(read_range(" or ".join(texts[:2500]))))

    def test_wrong(self):
        for value in values():
            if not isinstance(value, str):
                with self.assertRaises(Wrong) as caught:
                    read_range(value)
                self.assertTrue(same(caught.exception.place, 0))
            else:
                try:
                    self.assertTrue(is_range(read_range(value)))
                except NoRange:
                    self.assertNotIn(value, ("all", "1.2.3"))


class TestShowing(unittest.TestCase):
    def test_words(self):
        last = (999999, 999999, 999999)
        for one, text in (((), "none"), (all_of(), "all"), (((last, None),), show_version(last)),
                          ((((0, 0, 0), (0, 0, 1)),), "0.0.0"), ((((0, 0, 0), (0, 0, 2)),), "below 0.0.2"),
                          ((((0, 0, 0), last),), "below 999999.999999.999999"), ((((1, 0, 0), None),), "from 1.0.0"),
                          ((((1, 2, 999999), (1, 3, 0)), ((2, 0, 0), (3, 0, 0)), ((4, 0, 0), None)),
                           "1.2.999999 or from 2.0.0 and below 3.0.0 or from 4.0.0")):
            self.assertEqual(show_range(one), text)
            self.assertEqual(read_range(text), one)

    def test_there_and_back(self):
        for one in some_ranges(200, 9):
            self.assertTrue(same(read_range(show_range(one)), one))

    def test_same_meaning_same_range(self):
        chance = random.Random(10)
        for one in some_ranges(60, 11):
            text = show_range(one)
            for _ in range(3):
                how = chance.randrange(4)
                text = [f"not(not({text}))", f"({text})and all", f"none or ({text})", f"({text})and({text})"][how]
            self.assertEqual(read_range(text), one)


def beginnings(longest):
    """Return all rows of up to three words with which a range text of few words begins."""
    found = set()
    ends = [(), ("all",), ("1.2.3",)]
    for row in itertools.chain.from_iterable(itertools.product(WORDS, repeat=many) for many in range(4)):
        for end in ends:
            for closing in range(longest - 2):
                if slow_read(row + end + (")",) * closing) is not None:
                    found.add(row)
    return found


if __name__ == "__main__":
    unittest.main()
