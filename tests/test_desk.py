"""[49]: desks led by lines, beside a House led by calls."""

import random
import re
import unittest

from packsworn.desk import Desk
from packsworn.errors import NoCommand, NoGeneration, NoPack, NoText, PowerCut, Wrong
from packsworn.house import House
from packsworn.locks import show_lock
from packsworn.solver import answer
from packsworn.words import tell
from tests import disks, gens, houses
from tests.houses import some_command
from tests.kinds import bent, same, spoil, values
from tests.samples import ONE
from tests.test_house import COMMANDS, READY, bent_house, ready

REFUSED = (NoText, NoPack, NoGeneration, PowerCut)
TEXTS = [("", ""), ("a", "a"), ("|", "\n"), ("||", "||"), ("| |", "\n\n"), ("|  |", "\n\n"), ("|   |", "\n \n"), ("a | b", "a\nb"), ("a|b", "a|b"), ("a |b", "a |b"),
         ("a| b", "a| b"), ("a  |  b", "a \n b"), ("a   |   b", "a  \n  b"), ("| a", "\na"), ("a |", "a\n"), ("a | | b", "a\n\nb"), ("a |  | b", "a\n\nb"), ("a |   | b", "a\n \nb"),
         ("a | | | b", "a\n\n\nb"), ("a || b", "a || b"), ("a | |", "a\n\n"), ("| | a", "\n\na"), ("a |  b  c", "a\n b  c"), ("file x : a\\nb | file y : |", "file x : a\\nb\nfile y :\n")]


def line_of(command):
    """Return the line that tells a command of a House."""
    word, told = command[0], command[1:]
    if word == "publish":
        return "publish " + told[0].replace("\n", " | ")
    if word in ("withdraw", "restore"):
        return f"{word} {told[0]} {'.'.join(map(str, told[1]))}"
    if word == "wish_for":
        return " ".join(["wish", " | ".join(line.removeprefix("wish ") for line in told[0].split("\n"))]).strip(" ")
    if word == "collect":
        return " ".join(["collect"] + [str(number) for number in told[0] if number >= 0])
    return " ".join([word] + [str(part) for part in told])


def outcome(call, *arguments):
    """Return what a call returns, or its error, told by its name and its fields."""
    try:
        return call(*arguments)
    except REFUSED as error:
        return type(error).__name__, {word: getattr(error, word) for word in ("line", "name", "version", "number") if hasattr(error, word)}


def answered(command, found):
    """Return what a desk answers where a House returns something."""
    if isinstance(found, tuple) and isinstance(found[-1], dict):
        return found
    return ["none"] if command[0] == "install" and found[0] == "none" else ["done"]


def show_content(content):
    return re.sub("[\\\\\n]", lambda match: {"\\": "\\\\", "\n": "\\n"}[match[0]], content)


def plan_lines(house, mode):
    found = answer(house.case_of(mode))
    return (show_lock(found[1]).split("\n") if found[1] else []) if found[0] == "plan" else ["none"]


def why_lines(house, mode):
    found = answer(house.case_of(mode))
    text = tell(house.case_of(mode), found[2][0] if found[0] == "plan" else found[1])
    return text.split("\n") if text else []


def lines_told(house):
    """Return the dict from lines that only tell something to what they tell."""
    text = house.lock_text()
    found = {"tree": [f"{path} : {show_content(content)}" for path, content in sorted(house.tree().items())], "lock": text.split("\n") if text else [],
             "list": [str(number) for number in house.numbers()], "look": [" ".join(str(part) for part in one if part != "") for one in house.findings()]}
    for mode in houses.MODES:
        found.update({f"plan {mode}": plan_lines(house, mode), f"why {mode}": why_lines(house, mode)})
    return found


def spaced(chance, line):
    """Return the line with more blanks at its ends, and behind its first word."""
    word, blank, rest = line.partition(" ")
    return " " * chance.randint(0, 2) + word + blank * chance.randint(1, 3) + rest + " " * chance.randint(0, 2)


class TestLines(unittest.TestCase):
    def check(self, desk, house):
        self.assertEqual(desk.house(), house)
        for line, wanted in lines_told(house).items():
            found = desk.execute(line)
            self.assertTrue(same(found, wanted), (line, found, wanted))
            spoil(found)
            self.assertTrue(same(desk.execute(f"  {line.replace(' ', '   ')} "), wanted))
        self.assertEqual(desk.house(), house)

    def test_beside_a_house(self):
        seen = {}
        for seed in range(60):
            chance = random.Random(seed)
            desk, house = Desk({"mine": "kept"}), House({"mine": "kept"})
            for _ in range(15):
                command = some_command(chance)
                if command[0] == "collect":
                    command = ("collect", tuple(number for number in command[1] if number >= 0))
                # A negative number is none that a line can tell, nor is a wish whose first words are not those of one.
                if command == ("back", -1) or command[0] == "wish_for" and not all(line.startswith("wish ") for line in command[1].split("\n") if command[1]):
                    continue
                if chance.random() < 0.3:
                    many, signs = chance.randint(0, 8), chance.choice([None, 0, 1, 9])
                    house.fuse(many, signs)
                    self.assertEqual(desk.execute(f"cut {many}" + ("" if signs is None else f" {signs}")), ["done"])
                found = outcome(desk.execute, spaced(chance, line_of(command)))
                wanted = answered(command, outcome(houses.called, house, command))
                self.assertTrue(same(found, wanted), (command, found, wanted))
                self.assertEqual(desk.house(), house)
                key = (command[0], str(found[0]))
                seen[key] = seen.get(key, 0) + 1
                if not house.has_power():
                    self.check(desk, house)
                if chance.random() < 0.6:
                    house.power()
                    self.assertEqual(desk.execute("power"), ["done"])
            self.check(desk, house)
        words = {word for word, _ in seen}
        self.assertEqual(words, {"publish", "withdraw", "restore", "wish_for", "install", "back", "collect", "repair", "start"})
        self.assertTrue({("install", "none"), ("install", "done"), ("install", "PowerCut"), ("publish", "NoText"), ("back", "NoGeneration"), ("withdraw", "NoPack")} <= set(seen))

    def test_each_command(self):
        for command in COMMANDS:
            desk, house = Desk(ready().files()), ready()
            self.assertEqual(outcome(desk.execute, line_of(command)), answered(command, outcome(houses.called, house, command)))
            self.check(desk, house)

    def test_looking(self):
        house = bent_house()
        desk = Desk(house.files())
        self.check(desk, house)
        self.assertEqual(desk.execute("look"), ["0 lacks new", "0 other run"])
        self.assertEqual([desk.execute("repair"), desk.execute("look")], [["done"], []])
        desk = Desk({"gen/g10": "none", "gen/g9": "entries 0\nlock -"})
        self.assertEqual([desk.execute("look"), desk.execute("list")], [["9 unknown", "10 unknown"], ["9"]])

    def test_trees_and_locks(self):
        files = {"tree/b/c": "a\\b\nc\n", "tree/a": "", "lock": "lock a 1.0.0\n\nany text"}
        desk = Desk(files)
        self.assertEqual([desk.execute("tree"), desk.execute("lock")], [["a : ", "b/c : a\\\\b\\nc\\n"], ["lock a 1.0.0", "", "any text"]])
        for left, wanted in (({}, []), ({"lock": ""}, []), ({"lock": "\n"}, ["", ""])):
            desk = Desk(left)
            self.assertEqual([desk.execute("lock"), desk.execute("tree"), desk.execute("list"), desk.execute("look")], [wanted, [], [], []])
        self.assertEqual([Desk({}).execute(line) for line in ("plan newest", "why oldest", "install steady")], [[], [], ["done"]])

    def test_on_any_disk(self):
        for seed in range(60):
            files = {**houses.grown(seed % 15), **gens.some_disk(seed)}
            self.check(Desk(files), House(files))


class TestTexts(unittest.TestCase):
    def test_line_feeds(self):
        """What a TEXT tells is seen in the index of the line that is refused, and in what is published."""
        for text, wanted in TEXTS:
            desk, house = Desk({}), House({})
            for line in (f"publish {text}", f"  publish   {text}  "):
                self.assertEqual(answered(("publish",), outcome(house.publish, wanted)), outcome(desk.execute, line), text)
                self.assertEqual(desk.house(), house)
            wished = "\n".join("wish " + row for row in wanted.split("\n")) if wanted else ""
            self.assertEqual(answered(("wish_for",), outcome(house.wish_for, wished)), outcome(desk.execute, f"wish {text}"), text)
            self.assertEqual(desk.house(), house)

    def test_blanks_in_contents(self):
        for text, wanted in TEXTS:
            if "\n" not in wanted and not wanted.endswith(" "):
                desk = Desk({})
                self.assertEqual(desk.execute(f"publish pack a 1.0.0 | file p : {text} | file q :  {text} "), ["done"])
                files = dict(desk.house().registry()[0][0][7])
                self.assertEqual(files, {"p": wanted.replace("\\n", "\n"), "q": (" " + wanted).replace("\\n", "\n") if wanted else ""}, text)

    def test_by_hand(self):
        desk = Desk({})
        self.assertEqual(desk.execute("publish pack a 1.0.0 | file p : x  |  file q :   y | | # more |  pack b 1.0.0 |"), ["done"])
        self.assertEqual(desk.house().registry()[0], (("a", ONE) + ((),) * 5 + ((("p", "x "), ("q", "  y")),), ("b", ONE) + ((),) * 6))
        self.assertEqual([desk.execute("wish a;all | b ; all ; bare"), desk.house().files()["wish"]], [["done"], "wish a ; all\nwish b ; all ; bare"])
        self.assertEqual([desk.execute(" wish "), desk.house().wish(), desk.execute("publish"), len(desk.house().registry()[0])], [["done"], (), ["done"], 2])
        for line, index in (("wish |", 0), ("wish a ; all |", 1), ("wish | a ; all", 0), ("wish a ; all | | b ; all", 1), ("wish a ; al", 0), ("wish # a", 0),
                            ("publish pack a 1.0.0 | | | x", 3), ("publish pack a 1.0.0|", 0), ("publish |pack a 1.0.0", 0), ("publish x | y", 0)):
            with self.assertRaises(NoText) as caught:
                desk.execute(line)
            self.assertTrue(same(caught.exception.line, index), line)


class TestNoCommand(unittest.TestCase):
    BAD = ["", " ", "\n", "start\n", "\nstart", "publish pack a 1.0.0\npack b 1.0.0", "wish\n", "Start", "START", "starts", "start x", "publish| a", "wish|", "none-such", "withdraw", "withdraw a",
           "withdraw a 1.0", "withdraw a 01.0.0", "withdraw A 1.0.0", "withdraw a 1.0.0 x", "withdraw a 1.0.0000000", "withdraw 1.0.0 a", "restore", "restore a", "restore a-b", "restore -a 1.0.0",
           "back", "back -1", "back 01", "back 00", "back 1.0", "back 1 2", "back 1000000000", "back x", "back +1", "back 1_0", "back " + "9" * 5000, "collect x", "collect 1 1", "collect 2 1",
           "collect 0 00", "collect -1", "collect 1 1000000000", "collect 1, 2", "repair 1", "repair x", "power x", "power 1", "cut", "cut x", "cut -1", "cut 1 2 3", "cut 1 x", "cut x 1", "cut 01", "cut 1 01",
           "cut 1000000000", "cut 1 1000000000", "cut None", "cut 1 None", "install", "install Newest", "install new", "install newest oldest", "plan", "plan x", "plan newest x", "why", "why x",
           "tree x", "lock x", "list x", "look x", "wish_for a", "fuse 1", "files", "house", "tree\n", "|", "| start", "start |", "#", "# start", "install\tnewest", "\tstart"]

    def test_other_lines(self):
        desk = Desk(ready().files())
        house = desk.house()
        for line in self.BAD:
            with self.assertRaises(NoCommand):
                desk.execute(line)
            self.assertEqual(desk.house(), house)
        desk.execute("cut 0")
        with self.assertRaises(PowerCut):
            desk.execute("publish")
        for line in self.BAD:
            with self.assertRaises(NoCommand):
                desk.execute(line)

    def test_good_numbers(self):
        desk = Desk(ready().files())
        self.assertEqual([desk.execute(line) for line in ("collect 0 1 999999999", "collect 0", "back 0", "cut 999999999", "cut 0 0", "cut 999999999 999999999", "power", "list")],
                         [["done"]] * 7 + [["0"]])
        self.assertEqual([desk.execute("collect"), desk.execute("list")], [["done"], []])
        with self.assertRaises(NoGeneration) as caught:
            desk.execute("back 999999999")
        self.assertTrue(same(caught.exception.number, 999999999))

    def test_bent_lines(self):
        """A line that differs from a good one by a word is one too, or none: nothing else is raised."""
        for command in COMMANDS + READY:
            words = line_of(command).split(" ")
            for at in range(len(words)):
                for other in ("", "x", "1", "1.0.0", "|", ";", "newest", "-", "A"):
                    desk = Desk({})
                    try:
                        found = desk.execute(" ".join(words[:at] + [other] + words[at + 1:]))
                    except (NoCommand,) + REFUSED:
                        continue
                    self.assertTrue(all(isinstance(line, str) for line in found))

    def test_fuses(self):
        for line, fuse in (("cut 3", (3, None)), ("cut 0", (0, None)), ("cut 3 0", (3, 0)), ("  cut   0   7 ", (0, 7))):
            desk, house = Desk({"a": ""}), House({"a": ""})
            house.fuse(*fuse)
            self.assertEqual([desk.execute(line), desk.house() == house], [["done"], True])
        desk = Desk({})
        desk.execute("cut 0 2")
        with self.assertRaises(PowerCut):
            desk.execute("publish pack a 1.0.0")
        self.assertEqual([desk.house().files(), desk.house().has_power(), desk.execute("cut 5"), desk.execute("tree"), desk.execute("plan newest")],
                         [{"registry-new": "pa"}, False, ["done"], [], []])
        for line in ("start", "repair", "collect", "install newest", "back 0", "withdraw a 1.0.0", "wish x", "wish a ; all"):
            with self.assertRaises(PowerCut):
                desk.execute(line)
        self.assertEqual([desk.execute("power"), desk.execute("start"), desk.house().files()], [["done"], ["done"], {}])


class TestDesk(unittest.TestCase):
    def test_wrong(self):
        files = {"mine": "kept"}
        for thing in values() + bent(files) + [House({}), Desk({})]:
            good = type(thing) is dict and all(
                type(path) is str and disks.re.fullmatch(disks.PATH, path) and type(content) is str for path, content in thing.items())
            if good:
                self.assertTrue(same(Desk(thing).house().files(), thing))
            else:
                with self.assertRaises(Wrong) as caught:
                    Desk(thing)
                self.assertTrue(same(caught.exception.place, 0))
        desk = Desk(files)
        for thing in values():
            if isinstance(thing, str):
                with self.assertRaises(NoCommand):
                    desk.execute(thing)
            else:
                with self.assertRaises(Wrong) as caught:
                    desk.execute(thing)
                self.assertTrue(same(caught.exception.place, 0))
        self.assertEqual(desk.house().files(), files)

    def test_long_lines(self):
        for text in ("| " * 19000, "x" * 39000, "a | " * 9000, " " * 39000):
            for word in ("publish", "wish"):
                self.assertEqual(type(outcome(Desk({}).execute, f"{word} {text}")), list if not text.strip(" |") and (word == "publish" or not text.strip(" ")) else tuple)

    def test_twins(self):
        files = {"mine": "kept"}
        desk = Desk(files)
        files["other"] = "x"
        house = desk.house()
        house.publish("pack a 1.0.0")
        self.assertEqual([desk.house().files(), desk.house() == desk.house(), desk.house() == house, house.files()["mine"]], [{"mine": "kept"}, True, False, "kept"])
        desk.execute("publish pack a 1.0.0")
        self.assertEqual([desk.house() == house, desk.execute("withdraw a 1.0.0"), desk.house() == house], [True, ["done"], False])


if __name__ == "__main__":
    unittest.main()
