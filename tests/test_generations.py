"""[43]: manifests and generations, against own reading; recording and rolling back, deed by deed and wherever they are cut."""

import random
import re
import unittest

from packsworn.disk import after, all_cuts, cut
from packsworn.errors import NoGeneration
from packsworn.generations import (generations, manifest_at, manifest_text, read_manifest, record_deeds, rollback_deeds, sound_ones,
                                   tree_at)
from packsworn.installer import meant, mend_deeds
from tests import disks, gens
from tests.kinds import calls_alike, same, values
from tests.test_cuts import LOG_MOVE, beside, some_cuts

PATHS = ["a", "a-b", "a/b", "lock", "entries", "n" * 20, "z/y/x"]
SHELVES = ["store/c0", "store/c1", "store/c10", f"store/c{10 ** 19 - 1}"]
NUMBERS = [-1, 0, 1, 2, 3, 7, 9, 10, 11, 12, 10 ** 18, 10 ** 19, -(10 ** 30)]


def some_manifest(chance):
    paths = sorted(chance.sample(PATHS, chance.randint(0, 5)))
    return tuple((path, chance.choice(SHELVES)) for path in paths), chance.choice(SHELVES + [None])


def spoilt(chance, text):
    """Return texts that differ a little from another one."""
    lines = text.split("\n")
    found = [text + "\n", "\n" + text, text + " ", " " + text, text.upper(), text + "\n" + text, "\n".join(lines[:-1]), "\n".join(lines[1:]),
             "\n".join(lines[:1] + lines[2:]), "\n".join(lines[:2] + lines[1:]), "\n".join(lines[:1] + lines[-2:0:-1] + lines[-1:]),
             text.replace("entries ", "entries 0"), text.replace("\n", "\n\n", 1)]
    places = [match.start() for match in re.finditer(r"[ /0-9\n-]", text)]
    for place in chance.sample(places, min(10, len(places))):
        found += [text[:place] + other + text[place + 1:] for other in ("", " ", "  ", "0", "00", "1", "\n", "/", "-", "\t")]
    words = re.split(r"([ \n])", text)
    for _ in range(6):
        place = chance.randrange(len(words))
        found += ["".join(words[:place] + [other] + words[place + 1:])
                  for other in ("", "-", "lock", "entries", "A", "a//b", "a/", "a", "z", "store/c", "store/c01", "store/cx", "store/new",
                                f"store/c{10 ** 19}", "1", "a b", chance.choice(words))]
    return found


class TestManifests(unittest.TestCase):
    def test_there_and_back(self):
        for seed in range(300):
            manifest = some_manifest(random.Random(seed))
            text = calls_alike(self, manifest_text, manifest)
            self.assertEqual(text, gens.tell_manifest(manifest))
            self.assertTrue(same(calls_alike(self, read_manifest, text), manifest))

    def test_of_any_string(self):
        seen = {True: 0, False: 0}
        for seed in range(150):
            chance = random.Random(seed)
            for text in spoilt(chance, manifest_text(some_manifest(chance))):
                wanted = gens.read_manifest(text)
                self.assertTrue(same(read_manifest(text), wanted), text)
                seen[wanted is None] += 1
        for text in [value for value in values() if isinstance(value, str)]:
            self.assertIsNone(read_manifest(text))
        self.assertGreater(min(seen.values()), 100)

    def test_by_hand(self):
        self.assertEqual([manifest_text(((), None)), manifest_text(((), "store/c3"))], ["entries 0\nlock -", "entries 0\nlock store/c3"])
        self.assertEqual(read_manifest("entries 2\na store/c1\na/b store/c1\nlock -"), ((("a", "store/c1"), ("a/b", "store/c1")), None))
        for text in ("", "entries 0", "entries -1", "entries", "entries 0\nlock", "entries 0\nlock ", "entries 00\nlock -", "entries 0\nlock -\n", "entries 0\nlock - ",
                     "entries  0\nlock -", "entries 1\nlock -", "entries 0\na store/c0\nlock -", "entries 1\na store/c0", "entries -1\nlock -",
                     "entries 2\nb store/c0\na store/c0\nlock -", "entries 2\na store/c0\na store/c1\nlock -", "entries 1\na -\nlock -",
                     "entries 2\na store/c0\na store/c0\nlock -", "entries 1\na store/c00\nlock -", "entries 1\nA store/c0\nlock -",
                     "entries 1\na  store/c0\nlock -", "entries 1\na store/c0 \nlock -", "entries 1\n\na store/c0\nlock -", "entries 01\na store/c0\nlock -",
                     "entries 0\nlock store/c01", "entries 0\nlock store/new", "entries 0\nlock --", "entries 0\nLock -", "entries 1\nlock -\nlock -"):
            self.assertIsNone(read_manifest(text), text)


class TestReading(unittest.TestCase):
    def test_against_own_reading(self):
        seen = {}
        for seed in range(500):
            files = gens.some_disk(seed)
            told, sound = gens.manifests(files), gens.trees(files)
            self.assertTrue(same(calls_alike(self, generations, files), sorted(told)))
            self.assertTrue(same(calls_alike(self, sound_ones, files), sorted(sound)))
            for number in NUMBERS:
                self.assertTrue(same(calls_alike(self, manifest_at, files, number), told.get(number)))
                found = calls_alike(self, tree_at, files, number)
                self.assertTrue(same(found, sound.get(number)))
                if found is not None:
                    self.assertEqual(list(found[0]), sorted(found[0]))
                kind = (number in told, bool(told.get(number)), number in sound)
                seen[kind] = seen.get(kind, 0) + 1
        self.assertEqual(len(seen), 4)
        self.assertGreater(min(seen.values()), 30)

    def test_paths_near_generations(self):
        text = "entries 0\nlock -"
        files = {path: text for path in ("gen/g-1", "gen/g01", "gen/gx", "gen/new", "gen/g", "gen/g0/a", "gen/g00", "gen", "generation/g0", "gen/g1-")}
        self.assertEqual([generations(files), sound_ones(files), record_deeds(files)[-1]], [[], [], ("move", "gen/new", "gen/g0")])
        self.assertEqual([manifest_at(files, number) for number in NUMBERS], [None] * len(NUMBERS))
        self.assertEqual([tree_at(files, number) for number in NUMBERS], [None] * len(NUMBERS))
        with self.assertRaises(NoGeneration):
            rollback_deeds({"gen/g-1": "entries 0\nlock store/c0", "store/c0": ""}, -1)
        far = {f"gen/g{number}": text for number in (0, 5, 10, 10 ** 18)}
        self.assertEqual([generations(far), record_deeds(far)[-1]], [[0, 5, 10, 10 ** 18], ("move", "gen/new", f"gen/g{10 ** 18 + 1}")])

    def test_by_hand(self):
        files = {"gen/g2": "entries 2\na store/c0\nb store/c0\nlock -", "gen/g10": "entries 0\nlock store/c1", "gen/g3": "entries 1\na store/c9\nlock -",
                 "gen/g4": "none", "gen/g5": "entries 0\nlock store/c9", "store/c0": "", "store/c1": "x"}
        self.assertEqual([generations(files), sound_ones(files)], [[2, 3, 4, 5, 10], [2, 10]])
        self.assertEqual([tree_at(files, number) for number in (2, 3, 4, 5, 10)], [({"a": "", "b": ""}, None), None, None, None, ({}, "x")])
        self.assertEqual([manifest_at(files, 3), manifest_at(files, 4)], [((("a", "store/c9"),), None), None])


class TestRecording(unittest.TestCase):
    def test_deed_by_deed(self):
        for seed in range(300):
            files = gens.some_disk(seed)
            found = calls_alike(self, record_deeds, files)
            self.assertTrue(same(found, gens.record(files)), seed)
            done = after(files, found)
            number = sound_ones(done)[-1]
            self.assertEqual([tree_at(done, number), meant(done)], [meant(files)] * 2)
            self.assertEqual(number, max(generations(files), default=-1) + 1)

    def test_by_hand(self):
        self.assertEqual(record_deeds({}), [("put", "gen/new", "entries 0\nlock -"), ("move", "gen/new", "gen/g0")])
        files = {"tree/b": "x", "tree/a": "y", "lock": "x", "store/c0": "q", "gen/g4": "none", "log-new": ""}
        self.assertEqual(record_deeds(files), [
            ("drop", "log-new"), ("put", "store/new", "y"), ("move", "store/new", "store/c1"), ("put", "store/new", "x"), ("move", "store/new", "store/c2"),
            ("put", "gen/new", "entries 2\na store/c1\nb store/c2\nlock store/c2"), ("move", "gen/new", "gen/g5")])

    def test_all_cuts(self):
        for seed in range(60):
            files, chance = gens.some_disk(seed), random.Random(seed)
            deeds, sound = record_deeds(files), gens.trees(files)
            number = max(generations(files), default=-1) + 1
            for (many, _), left in zip(disks.ways_to_cut(deeds), all_cuts(files, deeds)):
                _, last = some_cuts(chance, left, 3)
                for here in (left, last):
                    done = after(here, mend_deeds(here))
                    self.assertEqual([meant(here), meant(done)], [meant(files)] * 2)
                    wanted = {**sound, number: meant(files)} if many == len(deeds) else sound
                    self.assertEqual({one: gens.trees(done).get(one) for one in wanted}, wanted)
                    self.assertIs(f"gen/g{number}" in done, many == len(deeds))
                    self.assertEqual({path: done[path] for path in beside(done) if path[:4] != "gen/"},
                                     {path: files[path] for path in beside(files) if path[:4] != "gen/"})


class TestRollingBack(unittest.TestCase):
    def test_deed_by_deed(self):
        seen = {True: 0, False: 0}
        for seed in range(300):
            files = gens.some_disk(seed)
            for number in NUMBERS:
                wanted = gens.rollback(files, number)
                seen[wanted is None] += 1
                if wanted is None:
                    with self.assertRaises(NoGeneration) as caught:
                        rollback_deeds(files, number)
                    self.assertTrue(same(caught.exception.number, number))
                else:
                    self.assertTrue(same(calls_alike(self, rollback_deeds, files, number), wanted))
                    self.assertEqual(meant(after(files, wanted)), tree_at(files, number))
        self.assertGreater(min(seen.values()), 100)

    def test_by_hand(self):
        files = {"gen/g1": "entries 2\na store/c0\nb store/c4\nlock store/c4", "store/c0": "x", "store/c1": "x", "store/c4": "", "tree/b": "q", "tree/c": "x"}
        self.assertEqual(rollback_deeds(files, 1), [
            ("put", "log-new", "log 3\ndrop c\nput a store/c0\nput b store/c4\nlock store/c4"), ("move", "log-new", "log"), ("drop", "tree/c"),
            ("put", "tree/a", "x"), ("put", "tree/b", ""), ("put", "lock", ""), ("drop", "log")])
        # The shelves are those of the manifest, also where the same content stands on an earlier one.
        later = {"gen/g1": "entries 1\na store/c1\nlock store/c1", "store/c0": "x", "store/c1": "x", "log": "none"}
        self.assertEqual(rollback_deeds(later, 1)[:2], [("drop", "log"), ("put", "log-new", "log 1\nput a store/c1\nlock store/c1")])
        for text in ("entries 0\nlock -", "entries 1\na store/c7\nlock store/c0", "entries 0\nlock store/c7", "none"):
            with self.assertRaises(NoGeneration):
                rollback_deeds({**files, "gen/g1": text}, 1)

    def test_all_cuts(self):
        many_done = 0
        for seed in range(150):
            files, chance = gens.some_disk(seed), random.Random(seed)
            for number in [number for number in sound_ones(files) if tree_at(files, number)[1] is not None][:1]:
                deeds = rollback_deeds(files, number)
                many_done += 1
                for (many, _), left in zip(disks.ways_to_cut(deeds), all_cuts(files, deeds)):
                    wanted = tree_at(files, number) if many > deeds.index(LOG_MOVE) else meant(files)
                    _, last = some_cuts(chance, left, 3)
                    for here in (left, last, cut(left, mend_deeds(left), 1, 1)):
                        done = after(here, mend_deeds(here))
                        self.assertEqual([meant(done), mend_deeds(done)], [wanted, []])
                        self.assertEqual(gens.trees(done), gens.trees(files))
                        self.assertEqual(beside(done), beside(files))
        self.assertGreater(many_done, 40)


if __name__ == "__main__":
    unittest.main()
