"""[5] to [10]: the whole program, from texts to an answer, a paper in words, an installing, generations, and back, with cuts anywhere."""

import random
import unittest

from packsworn.cuts import mended
from packsworn.desk import Desk
from packsworn.disk import after, all_cuts
from packsworn.errors import PowerCut
from packsworn.generations import record_deeds, rollback_deeds, sound_ones, tree_at
from packsworn.house import House
from packsworn.installer import install_deeds, meant
from packsworn.judge import is_first_paper, is_none_paper
from packsworn.lastings import helpers, still_none, what_can_help
from packsworn.locks import read_lock, show_lock
from packsworn.plans import is_plan
from packsworn.reader import read_case, read_registry, read_wish
from packsworn.releases import drops_in, room_for, with_release
from packsworn.solver import answer
from packsworn.texts import show_case, show_registry, show_wish
from packsworn.trees import tree_of
from packsworn.upgrades import upgraded, with_lock
from packsworn.words import read_told, tell
from tests import disks, gens, houses
from tests.large import wide_case
from tests.samples import THREE, TWO
from tests.small import pack, rows

OLD = """pack app 1.0.0
needs lib ; near 1.0.0
file bin/app : one\\n
file doc : read me
pack lib 1.0.0
feature fast
extra zip ; all
default fast
file lib/a : a
pack zip 1.0.0
file zip : z"""
NEW = """pack app 2.0.0
needs lib ; from 2.0.0 ; bare
file bin/app : two\\n
file doc : read me
pack lib 2.0.0
file lib/a : b"""
BACK_NEED = "pack app 3.0.0\nneeds gone ; from 1.0.0 and not 1.5.0"


class TestOfTexts(unittest.TestCase):
    def test_papers_of_texts(self):
        """Each answer of a case that was shown and read has a paper that is told, read back and judged."""
        seen = {True: 0, False: 0}
        for case, plans, _ in rows()[::2]:
            again = read_case(show_case(case))
            self.assertEqual(again, case)
            self.assertEqual((read_registry(show_registry(case[0])), read_wish(show_wish(case[1]))), case[:2])
            found = answer(again)
            steps = found[2][0] if plans else found[1]
            told = read_told(again, tell(again, steps))
            self.assertEqual(told, steps)
            if plans:
                self.assertEqual([found[1], read_lock(show_lock(found[1])), is_first_paper(case, found[1], (told, found[2][1]))], [plans[0], plans[0], True])
                locked = with_lock(again, read_lock(show_lock(found[1])))
                # A lock that is a plan is the first one in the mode "steady".
                self.assertEqual(upgraded(locked, ()), answer(locked[:3] + ("steady",)))
                self.assertEqual(upgraded(locked, ())[1], found[1])
            else:
                self.assertTrue(is_none_paper(case, told))
            seen[bool(plans)] += 1
        self.assertGreater(min(seen.values()), 50)

    def test_later_cases_of_houses(self):
        """A house that has no plan tells what can help; what cannot leaves it without, told without any search."""
        house = House({})
        house.publish(OLD + "\n" + BACK_NEED)
        house.wish_for("wish app ; from 3.0.0")
        case = house.case_of("newest")
        word, steps = answer(case)
        self.assertEqual([word, house.install("newest")[0], sorted(what_can_help(case, steps))], ["none", "none", ["app", "gone"]])
        house.publish(NEW)
        house.publish("pack gone 0.9.0\npack gone 1.5.0")
        other = house.case_of("oldest")
        self.assertEqual([still_none(case, steps, other), helpers(case, steps, other), house.install("oldest")[0]], [True, (), "none"])
        house.publish("pack gone 1.4.0\nfile gone : here")
        other = house.case_of("oldest")
        self.assertEqual([still_none(case, steps, other), helpers(case, steps, other)], [False, (("gone", (1, 4, 0)),)])
        self.assertEqual([house.install("oldest")[1], house.tree()], [{"app": (THREE, ()), "gone": ((1, 4, 0), ())}, {"gone": "here"}])

    def test_releases_go_into_houses(self):
        house = House({})
        house.publish(OLD)
        house.wish_for("wish app ; all")
        plan = house.install("newest")[1]
        case = house.case_of("steady")
        self.assertEqual(room_for(case, plan, "lib"), (((1, 0, 0), (2, 0, 0)),))
        for version in ((1, 9, 9), (2, 0, 0)):
            self.assertIs(drops_in(case, plan, "lib", version), version < (2, 0, 0))
            twin = house.twin()
            twin.publish(show_registry(((("lib", version) + [one for one in case[0][0] if one[0] == "lib"][0][2:],), ())))
            self.assertEqual(twin.case_of("newest")[0], with_release(case, ("lib", version) + [one for one in case[0][0] if one[0] == "lib"][0][2:])[0])
            self.assertEqual(twin.install("newest")[1]["lib"][0], version if version < (2, 0, 0) else (1, 0, 0))


class TestOfDisks(unittest.TestCase):
    def test_installing_generations_and_back(self):
        """Plans of a case are installed and recorded, one behind the other, and gone back to; each is cut everywhere."""
        chance, many = random.Random(0), 0
        for case, plans, _ in rows()[::5]:
            plans = [plan for plan in plans[:3] if max([len(content) for content in tree_of(case[0], plan).values()], default=0) < 20]
            files, numbers = {"mine": "kept", "tree/old": "x"}, []
            for plan in plans:
                for deeds in (install_deeds(files, case[0], plan), None):
                    deeds = record_deeds(files) if deeds is None else deeds
                    sound = gens.trees(files)
                    for left in chance.sample(all_cuts(files, deeds), min(8, len(all_cuts(files, deeds)))):
                        self.assertIn(meant(left), (meant(files), (tree_of(case[0], plan), show_lock(plan))))
                        found = gens.trees(mended(left))
                        self.assertEqual({number: found[number] for number in sound}, sound)
                    files = after(files, deeds)
                numbers.append((max(sound_ones(files)), plan))
            for number, plan in numbers:
                deeds = rollback_deeds(files, number)
                for left in chance.sample(all_cuts(files, deeds), min(8, len(all_cuts(files, deeds)))):
                    self.assertIn(meant(left), (meant(files), tree_at(files, number)))
                files = after(files, deeds)
                self.assertEqual(meant(files), (tree_of(case[0], plan), show_lock(plan)))
                self.assertTrue(is_plan(with_lock(case, plan), read_lock(files["lock"])))
                many += 1
        self.assertGreater(many, 20)

    def test_houses_with_cuts_anywhere(self):
        """A house is led by a row of commands, each of them cut again and again until it is done."""
        commands = [("publish", OLD), ("wish_for", "wish app ; all"), ("install", "newest"), ("publish", NEW), ("install", "steady"), ("install", "newest"), ("withdraw", "app", TWO),
                    ("restore", "app", TWO), ("back", 0), ("publish", OLD.replace("read me", "read it")), ("repair",), ("collect", (0, 2)), ("back", 2)]
        wanted = House({"mine": "kept"})
        for command in commands:
            houses.called(wanted, command)
        self.assertEqual([wanted.numbers(), wanted.tree(), wanted.findings()], [[0, 2], {"bin/app": "two\n", "doc": "read me", "lib/a": "b"}, []])
        for seed in range(40):
            chance = random.Random(seed)
            house, done = House({"mine": "kept"}), 0
            while done < len(commands):
                house.power()
                house.fuse(chance.randint(0, 16), chance.choice([None, 0, 1, 7]))
                before = house.numbers()
                try:
                    houses.called(house, commands[done])
                    done += 1
                except PowerCut:
                    # An install that has left its generation is done, and is not done again.
                    done += commands[done][0] == "install" and house.numbers() != before
            house.power()
            house.start()
            self.assertEqual(houses.values_of(house), houses.values_of(wanted))
            self.assertEqual([house.findings(), house.files()["mine"]], [[], "kept"])
            house.collect(tuple(house.numbers()))
            self.assertEqual(disks.on_shelves(house.files()), disks.on_shelves(wanted.files()))

    def test_desks(self):
        desk = Desk({})
        told = [("publish " + OLD.replace("\n", " | "), ["done"]), ("wish app ; all", ["done"]), ("plan newest", ["lock app 1.0.0", "lock lib 1.0.0 ; with fast", "lock zip 1.0.0"]),
                ("why newest", []), ("install newest", ["done"]), ("publish " + NEW.replace("\n", " | "), ["done"]), ("plan steady", ["lock app 1.0.0", "lock lib 1.0.0 ; with fast", "lock zip 1.0.0"]),
                ("cut 5 1", ["done"])]
        for line, wanted in told:
            found = desk.execute(line)
            if line != "why newest":
                self.assertEqual(found, wanted, line)
            else:
                case = desk.house().case_of("newest")
                self.assertEqual(read_told(case, "\n".join(found)), answer(case)[2][0])
        with self.assertRaises(PowerCut):
            desk.execute("install newest")
        self.assertEqual(desk.execute("tree"), ["bin/app : one\\n", "doc : read me", "lib/a : a", "zip : z"])
        self.assertEqual([desk.execute(line) for line in ("power", "install newest", "tree", "list", "back 0", "tree")], [
            ["done"], ["done"], ["bin/app : two\\n", "doc : read me", "lib/a : b"], ["0", "1"], ["done"], ["bin/app : one\\n", "doc : read me", "lib/a : a", "zip : z"]])


class TestLarge(unittest.TestCase):
    def test_as_large_as_can_be(self):
        """A registry of 60 packs goes into a house, is installed, and upgraded."""
        many = 0
        for seed in range(6):
            registry, wish, _, _ = wide_case(seed, 0.5, 2)
            house = House({})
            house.publish(show_registry(registry))
            house.wish_for(show_wish(wish))
            self.assertEqual(house.case_of("oldest"), (registry, wish, {}, "oldest"))
            for mode in ("oldest", "newest"):
                found = house.install(mode)
                if found[0] == "plan":
                    self.assertEqual([house.lock(), house.tree()], [found[1], disks.tree_of(registry, found[1])])
                    many += 1
                else:
                    case = house.case_of(mode)
                    self.assertTrue(is_none_paper(case, found[1]))
                    # What can help is none of the versions that there are.
                    self.assertEqual([helpers(case, found[1], case), still_none(case, found[1], case)], [(), True])
        self.assertGreater(many, 2)

    def test_a_full_disk(self):
        """Bounds of disks: 80 paths, long texts."""
        files = {f"tree/n{at}": "x" * 6000 for at in range(40)} | {f"mine/n{at}": "y" * 6000 for at in range(38)} | {"lock": ""}
        registry = (pack("a", files=tuple((f"n{at}", f"new {at}") for at in (0, 1, 10, 2))),), ()
        deeds = install_deeds(files, registry, {"a": (registry[0][0][1], ())})
        self.assertEqual(disks.tree(after(files, deeds)), {f"n{at}": f"new {at}" for at in (0, 1, 10, 2)})
        self.assertEqual(record_deeds(files), gens.record(files))


if __name__ == "__main__":
    unittest.main()
