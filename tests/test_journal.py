"""[40]: logs shown and read."""

import random
import re
import unittest

from packsworn.journal import log_text, read_log
from tests import disks
from tests.kinds import calls_alike, same, values

PATHS = ["a", "a/b", "z-9/y", "n" * 20, "drop", "put", "log/lock", "store/c0"]
SHELVES = ["store/c0", "store/c1", "store/c10", "store/c999", f"store/c{10 ** 19 - 1}"]


def some_log(chance):
    steps = []
    for _ in range(chance.choice([0, 1, 2, 3, 12])):
        path = chance.choice(PATHS)
        steps.append(("drop", path) if chance.random() < 0.5 else ("put", path, chance.choice(SHELVES)))
    return tuple(steps), chance.choice(SHELVES)


def spoilt(chance, text):
    """Return texts that differ a little from another one."""
    lines = text.split("\n")
    found = [text + "\n", "\n" + text, text + " ", " " + text, text.upper(), text + "\n" + text, "\n".join(lines[:-1]), "\n".join(lines[1:]),
             "\n".join(lines[:1] + lines[2:]), "\n".join(lines[:1] + lines), "\n".join(reversed(lines)), text.replace("\n", "\n\n", 1)]
    places = [match.start() for match in re.finditer(r"[ /0-9\n]", text)]
    for place in chance.sample(places, min(10, len(places))):
        found += [text[:place] + other + text[place + 1:] for other in ("", " ", "  ", "0", "00", "01", "1", "\n", "/", "c", "-", "+1", "\t")]
    words = re.split(r"([ \n])", text)
    for _ in range(6):
        place = chance.randrange(len(words))
        found += ["".join(words[:place] + [other] + words[place + 1:])
                  for other in ("", "drop", "put", "lock", "log", "A", "a//b", "/", "a/", "store/c", "store/c00", "store/c-1", "store/cx",
                                f"store/c{10 ** 19}", "store/new", "store/c1/c1", "1", "a b", chance.choice(words))]
    return found


class TestJournal(unittest.TestCase):
    def test_there_and_back(self):
        for seed in range(300):
            log = some_log(random.Random(seed))
            text = calls_alike(self, log_text, log)
            self.assertEqual(text, disks.tell_log(log))
            self.assertTrue(same(calls_alike(self, read_log, text), log))

    def test_of_any_string(self):
        seen = {True: 0, False: 0}
        for seed in range(150):
            chance = random.Random(seed)
            for text in spoilt(chance, log_text(some_log(chance))):
                wanted = disks.read_log(text)
                self.assertTrue(same(read_log(text), wanted), text)
                seen[wanted is None] += 1
        for text in [value for value in values() if isinstance(value, str)]:
            self.assertIsNone(read_log(text))
        self.assertGreater(min(seen.values()), 100)

    def test_by_hand(self):
        self.assertEqual(log_text(((), "store/c7")), "log 0\nlock store/c7")
        self.assertEqual(read_log("log 0\nlock store/c7"), ((), "store/c7"))
        twice = (("put", "a", "store/c0"), ("drop", "a"), ("drop", "a"), ("put", "a", "store/c0"))
        self.assertEqual(read_log(log_text((twice, "store/c0"))), (twice, "store/c0"))
        for text in ("", "log 0", "log -1", "log", "log 0\nlock -", "log 00\nlock store/c0", "log 1\nlock store/c0", "log 0\ndrop a\nlock store/c0",
                     "log 1\ndrop a b\nlock store/c0", "log 1\nput a\nlock store/c0", "log 1\ndrop A\nlock store/c0", "log -1\nlock store/c0",
                     "log 0\nlock  store/c0", "log 0 \nlock store/c0", "log 0\nlock store/c0\n", "log 0\nlock store/c0 x", "Log 0\nlock store/c0",
                     "log 1\nput a store/c01\nlock store/c0", "log 1\nput a store/new\nlock store/c0", "log 1\nmove a b\nlock store/c0",
                     "log 0\nlock store/c00", "log 0\nput store/c0", "log 2\ndrop a\nlock store/c0", "log 1\nlock store/c0\nlock store/c0",
                     "log 1\n\nlock store/c0", "log 10\n" + "drop a\n" * 9 + "lock store/c0", f"log 0\nlock store/c{10 ** 19}"):
            self.assertIsNone(read_log(text), text)
        self.assertEqual(len(read_log("log 10\n" + "drop a\n" * 10 + "lock store/c0")[0]), 10)


if __name__ == "__main__":
    unittest.main()
