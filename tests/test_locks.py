"""[33]: locks shown and read, and changes of locks there and back."""

import itertools
import random
import re
import unittest

from packsworn.errors import NotThere, Wrong
from packsworn.locks import change_word, changed_lock, changes_between, read_lock, show_lock
from tests.kinds import calls_alike, same, values
from tests.samples import ONE, THREE, TWO, lot

NAMES = ["a", "a-b", "a1", "b", "zz"]


def some_lock(chance):
    versions = [ONE, TWO, (0, 0, 0), (10, 200, 999999)]
    return {name: (chance.choice(versions), lot(chance, ["f", "g", "h-1"], 2)) for name in chance.sample(NAMES, chance.randint(0, 5))}


def told(lock):
    lines = []
    for name in sorted(lock):
        version, features = lock[name]
        lines.append(f"lock {name} {version[0]}.{version[1]}.{version[2]}" + (" ; with " + " ".join(features) if features else ""))
    return "\n".join(lines)


def read_slowly(text):
    """Return the lock that a text shows, None if it shows none."""
    lock, number = {}, "(0|[1-9][0-9]{0,5})"
    name = "[a-z][a-z0-9-]{0,19}"
    for line in text.split("\n") if text else []:
        match = re.fullmatch(rf"lock ({name}) {number}\.{number}\.{number}( ; with {name}( {name})*)?", line)
        if not match or lock and match[1] <= list(lock)[-1]:
            return None
        features = tuple((match[5] or "").split(" ")[3:])
        if sorted(set(features)) != list(features):
            return None
        lock[match[1]] = ((int(match[2]), int(match[3]), int(match[4])), features)
    return lock


def spoilt(chance, text):
    found = [text + "\n", "\n" + text, text + " ", " " + text, text.upper(), "\n".join(reversed(text.split("\n"))), text + "\n" + text]
    places = [match.start() for match in re.finditer(r"[ .;0-9\n]", text)]
    for place in chance.sample(places, min(10, len(places))):
        found += [text[:place] + other + text[place + 1:] for other in ("", " ", "  ", "0", "00", "01", "1", "\n", ";", " ; ", ".", "b")]
    words = re.split(r"( )", text)
    for _ in range(4):
        place = chance.randrange(len(words))
        found += ["".join(words[:place] + [other] + words[place + 1:]) for other in ("", "lock", "with", ";", "1.0.0", "a", "f", "1.0", chance.choice(words))]
    return found


class TestTexts(unittest.TestCase):
    def test_there_and_back(self):
        for seed in range(300):
            lock = some_lock(random.Random(seed))
            text = calls_alike(self, show_lock, lock)
            self.assertEqual(text, told(lock))
            found = calls_alike(self, read_lock, text)
            self.assertTrue(same(found, lock))
            self.assertEqual(list(found), sorted(found))

    def test_empty(self):
        self.assertTrue(same([show_lock({}), read_lock("")], ["", {}]))

    def test_spoilt(self):
        seen = {True: 0, False: 0}
        for seed in range(150):
            chance = random.Random(seed)
            for text in spoilt(chance, told(some_lock(chance))):
                wanted = read_slowly(text)
                self.assertTrue(same(read_lock(text), wanted), text)
                seen[wanted is None] += 1
        self.assertGreater(min(seen.values()), 500)

    def test_by_hand(self):
        self.assertEqual(read_lock("lock a 1.0.0 ; with f g\nlock b 2.0.0"), {"a": (ONE, ("f", "g")), "b": (TWO, ())})
        for text in ("lock a 01.0.0", "lock a 1.0.00", "lock a 1.0", "lock a 1.0.0.0", "lock a 1000000.0.0", "lock a -1.0.0", "lock a 1.0.0\nlock a 1.0.0",
                     "lock a 1.0.0\nlock a 2.0.0", "lock b 1.0.0\nlock a 1.0.0", "lock  a 1.0.0", "lock a  1.0.0", " lock a 1.0.0", "lock a 1.0.0 ",
                     "lock a 1.0.0\n", "\nlock a 1.0.0", "lock a 1.0.0\n\nlock b 1.0.0", "\n", " ", "lock a 1.0.0 ;", "lock a 1.0.0 ; with", "lock a 1.0.0 ; with ",
                     "lock a 1.0.0 ; with g f", "lock a 1.0.0 ; with f f", "lock a 1.0.0 ; with f  g", "lock a 1.0.0; with f", "lock a 1.0.0 with f",
                     "lock a 1.0.0 ; with F", "lock A 1.0.0", "lock a", "lock", "pack a 1.0.0", "lock a 1.0.0 ; also f", "lock a 1.0.0\tx", "lock 1 1.0.0",
                     "# none", "lock " + "a" * 21 + " 1.0.0", "lock a 1.0.0 ; with " + "f" * 21, "lock a 1.0.0 ; with 1", "Lock a 1.0.0"):
            self.assertIsNone(read_lock(text), text)
        self.assertEqual(read_lock("lock " + "a" * 20 + " 0.0.999999"), {"a" * 20: ((0, 0, 999999), ())})

    def test_any_value(self):
        for value in values():
            if isinstance(value, str):
                self.assertTrue(same(read_lock(value), {} if value == "" else None), value[:80])
                continue
            with self.assertRaises(Wrong) as caught:
                read_lock(value)
            self.assertTrue(same(caught.exception.place, 0))


class TestChanges(unittest.TestCase):
    def test_there_and_back(self):
        many = 0
        for seed in range(300):
            chance = random.Random(seed)
            one, other = some_lock(chance), some_lock(chance)
            changes = calls_alike(self, changes_between, one, other)
            names = sorted(set(one) | set(other))
            self.assertTrue(same(changes, [(name, one.get(name), other.get(name)) for name in names if one.get(name) != other.get(name)]))
            for given in (changes, tuple(changes), changes[::-1]):
                found = calls_alike(self, changed_lock, one, given)
                self.assertTrue(same(found, other))
                self.assertEqual(list(found), sorted(found))
            self.assertEqual(changes_between(one, one), [])
            self.assertTrue(same(changed_lock(one, []), one))
            many += len(changes) > 2
        self.assertGreater(many, 100)

    def test_some_changes(self):
        for seed in range(200):
            chance = random.Random(seed)
            one, other = some_lock(chance), some_lock(chance)
            changes = [change for change in changes_between(one, other) if chance.random() < 0.5]
            wanted = {**one, **{name: after for name, _, after in changes if after is not None}}
            for name, _, after in changes:
                if after is None:
                    del wanted[name]
            self.assertTrue(same(changed_lock(one, changes), wanted))

    def test_not_there(self):
        seen = 0
        for seed in range(300):
            chance = random.Random(seed)
            one, other, third = some_lock(chance), some_lock(chance), some_lock(chance)
            changes = changes_between(other, third)
            chance.shuffle(changes)
            bad = [name for name, before, _ in changes if one.get(name) != before]
            if bad:
                before = {name: one[name] for name in one}
                with self.assertRaises(NotThere) as caught:
                    changed_lock(one, changes)
                self.assertEqual(caught.exception.name, bad[0])
                self.assertTrue(same(one, before))
                seen += 1
        self.assertGreater(seen, 100)

    def test_first_in_the_order_of_the_changes(self):
        lock = {"a": (ONE, ()), "b": (ONE, ("f",))}
        good, bad, worse = ("a", (ONE, ()), None), ("b", (ONE, ()), None), ("c", (ONE, ()), (TWO, ()))
        for changes, name in (([good, bad, worse], "b"), ([worse, bad], "c"), ([good, worse, bad], "c"), ([("a", None, (TWO, ()))], "a"),
                              ([("b", (TWO, ("f",)), None)], "b"), ((bad,), "b")):
            with self.assertRaises(NotThere) as caught:
                changed_lock(lock, changes)
            self.assertEqual(caught.exception.name, name)
        self.assertEqual(changed_lock(lock, [good, ("c", None, (TWO, ()))]), {"b": (ONE, ("f",)), "c": (TWO, ())})

    def test_words(self):
        told_words = {(None, (ONE, ())): "added", ((ONE, ()), None): "dropped", ((ONE, ()), (TWO, ())): "raised", ((TWO, ()), (ONE, ())): "lowered",
                      ((ONE, ()), (ONE, ("f",))): "other", ((ONE, ("f",)), (ONE, ())): "other", ((ONE, ("f",)), (TWO, ("f", "g"))): "raised",
                      (((1, 9, 0), ("f",)), ((1, 10, 0), ())): "raised", ((THREE, ()), (TWO, ("f",))): "lowered", (((1, 0, 1), ()), (ONE, ())): "lowered"}
        for (before, after), wanted in told_words.items():
            self.assertEqual(calls_alike(self, change_word, before, after), wanted)
        for one, other in itertools.permutations([ONE, TWO, (1, 0, 1), (0, 9, 9)], 2):
            self.assertEqual(change_word((one, ()), (other, ("f",))), "raised" if one < other else "lowered")


if __name__ == "__main__":
    unittest.main()
