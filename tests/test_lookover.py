"""[45]: looking over generations, against own reading; repairing, deed by deed and wherever it is cut."""

import random
import unittest

from packsworn.disk import after, all_cuts
from packsworn.generations import record_deeds
from packsworn.installer import install_deeds, meant, mend_deeds
from packsworn.lookover import look_over, repair_deeds
from tests import disks, gens
from tests.kinds import calls_alike, same
from tests.samples import ONE, TWO
from tests.small import pack
from tests.test_cuts import beside, some_cuts

REGISTRY = ((pack("a", files=(("p", "x"), ("q", "y"))), pack("a", TWO, files=(("p", "z"),))), ())


def recorded(registry, plan, files):
    """Return the files behind an installing and its recording."""
    files = after(files, install_deeds(files, registry, plan))
    return after(files, record_deeds(files))


FILES = recorded(REGISTRY, {"a": (ONE, ())}, {})
BOTH = recorded(REGISTRY, {"a": (TWO, ("f",))}, FILES)


def both_kinds(many):
    """Return a list of (registry, files): of plans of the registry, and of anything."""
    found = [gens.known_disk(seed) for seed in range(many)]
    return found + [(disks.some_registry(random.Random(seed)), gens.some_disk(seed)) for seed in range(many)]


class TestLookOver(unittest.TestCase):
    def test_against_own_reading(self):
        seen = {}
        for registry, files in both_kinds(300):
            found = calls_alike(self, look_over, files, registry)
            self.assertTrue(same(found, gens.findings(files, registry)))
            for _, word, _ in found:
                seen[word] = seen.get(word, 0) + 1
            seen["none"] = seen.get("none", 0) + (found == [] and bool(gens.manifests(files)))
        self.assertEqual(sorted(seen), ["lacks", "more", "none", "other", "unknown"])
        self.assertGreater(min(seen.values()), 10)

    def test_by_hand(self):
        self.assertEqual([look_over(FILES, REGISTRY), look_over(BOTH, REGISTRY), look_over({}, REGISTRY)], [[], [], []])
        self.assertEqual(look_over(BOTH, (REGISTRY[0][:1], ())), [(1, "unknown", "")])
        self.assertEqual(look_over(BOTH, ((), ())), [(0, "unknown", ""), (1, "unknown", "")])
        self.assertEqual(look_over({**FILES, "store/c0": "bent"}, REGISTRY), [(0, "other", "p")])
        lacking = {path: FILES[path] for path in FILES if path != "store/c1"}
        self.assertEqual(look_over(lacking, REGISTRY), [(0, "lacks", "q")])
        shelf = FILES["gen/g0"].split("lock ")[1]
        bent = {**FILES, "gen/g0": f"entries 3\na store/c77\np store/c1\nz store/c0\nlock {shelf}"}
        self.assertEqual(look_over(bent, REGISTRY), [(0, "lacks", "q"), (0, "more", "a"), (0, "more", "z"), (0, "other", "p")])

    def test_unknown(self):
        shelf = FILES["gen/g0"].split("lock ")[1]
        for change in ({"gen/g0": "none"}, {"gen/g0": "entries 0\nlock -"}, {"gen/g0": "entries 0\nlock store/c99"}, {shelf: "lock a 1.0.0 "},
                       {shelf: "lock b 1.0.0"}, {shelf: "lock a 3.0.0"}, {shelf: "lock a 1.0.0\nlock c 1.0.0"}, {shelf: "x"}):
            self.assertEqual(look_over({**FILES, **change}, REGISTRY), [(0, "unknown", "")])
        for text, wanted in (("", [(0, "more", "p"), (0, "more", "q")]), ("lock a 1.0.0 ; with f", []), ("lock a 2.0.0", [(0, "more", "q"), (0, "other", "p")])):
            self.assertEqual(look_over({**FILES, shelf: text}, REGISTRY), wanted)

    def test_order(self):
        files = {f"gen/g{number}": "none" for number in (10, 9, 100, 2)}
        self.assertEqual(look_over(files, REGISTRY), [(number, "unknown", "") for number in (2, 9, 10, 100)])


class TestRepairing(unittest.TestCase):
    def test_deed_by_deed(self):
        many = 0
        for registry, files in both_kinds(250):
            found = calls_alike(self, repair_deeds, files, registry)
            self.assertTrue(same(found, gens.repair(files, registry)))
            done = after(files, found)
            before, behind_it = look_over(after(files, mend_deeds(files)), registry), look_over(done, registry)
            known = {number for number in gens.manifests(files)} - {number for number, word, _ in before if word == "unknown"}
            self.assertFalse([finding for finding in behind_it if finding[0] in known])
            self.assertEqual(meant(done), meant(files))
            many += len({number for number, word, _ in before if word != "unknown"})
        self.assertGreater(many, 50)

    def test_by_hand(self):
        self.assertEqual([repair_deeds({}, REGISTRY), repair_deeds(BOTH, REGISTRY), repair_deeds({"gen/g0": "none"}, REGISTRY)], [[], [], []])
        shelf = FILES["gen/g0"].split("lock ")[1]
        bent = {**FILES, "store/c0": "bent", "gen/new": "half", "log-new": ""}
        number = len(disks.numbered(FILES, "store/c"))
        self.assertEqual(repair_deeds(bent, REGISTRY), [
            ("drop", "log-new"), ("put", "store/new", "x"), ("move", "store/new", f"store/c{number}"),
            ("put", "gen/new", f"entries 2\np store/c{number}\nq store/c1\nlock {shelf}"), ("move", "gen/new", "gen/g0")])
        more = {**FILES, "gen/g0": FILES["gen/g0"].replace("entries 2", "entries 3").replace("\nlock", "\nr store/c0\nlock")}
        self.assertEqual(repair_deeds(more, REGISTRY), [("put", "gen/new", FILES["gen/g0"]), ("move", "gen/new", "gen/g0")])

    def test_several_need_the_same_content(self):
        third = recorded(REGISTRY, {"a": (ONE, ("g",))}, BOTH)
        gone = {path: third[path] for path in third if third[path] != "x" or path.startswith("tree/")}
        self.assertEqual(look_over(gone, REGISTRY), [(0, "lacks", "p"), (2, "lacks", "p")])
        found = repair_deeds(gone, REGISTRY)
        # It is kept once; the one behind it is written all the same, being one with a finding behind the mending.
        self.assertEqual([deed[:1] + deed[-1:] for deed in found if deed[0] == "move" or deed[1] == "store/new"],
                         [("put", "x"), ("move", "store/c0"), ("move", "gen/g0"), ("move", "gen/g2")])
        self.assertEqual(after(gone, found), third)

    def test_all_cuts(self):
        for registry, files in both_kinds(50):
            chance, deeds = random.Random(len(files)), repair_deeds(files, registry)
            bad = {number for number, _, _ in look_over(files, registry)}
            sound = {number: tree for number, tree in gens.trees(files).items()}
            fixed = gens.trees(after(files, deeds))
            for left in all_cuts(files, deeds):
                _, last = some_cuts(chance, left, 3)
                for here in (left, last):
                    done = after(here, mend_deeds(here))
                    self.assertEqual([meant(here), meant(done)], [meant(files)] * 2)
                    self.assertTrue({number for number, _, _ in look_over(here, registry)} <= bad)
                    for number, tree in sound.items():
                        # Each is as it was, or as it is to be.
                        self.assertIn(gens.trees(done).get(number), (tree, fixed[number]))
                        if number not in bad:
                            self.assertEqual(gens.trees(done)[number], tree)
                    self.assertEqual({path: text for path, text in beside(done).items() if path[:4] != "gen/"},
                                     {path: text for path, text in beside(files).items() if path[:4] != "gen/"})


if __name__ == "__main__":
    unittest.main()
