"""[31]: derivations in words, told and read again, against a telling of one's own."""

import random
import re
import unittest

from packsworn.errors import NoText, Wrong
from packsworn.solver import answer
from packsworn.words import read_told, tell
from tests import papers
from tests.kinds import bent, calls_alike, same, values
from tests.samples import EVERY, ONE, TWO
from tests.small import EMPTY, LATE, asked, case_of, pack, rows
from tests.test_judge import derivations

PACKS = [pack("app", ONE, (("lib", ((ONE, TWO),), (), True),)), pack("lib"), pack("lib", TWO), pack("tool", ONE, (("lib", LATE, (), True),))]
CASE = case_of(PACKS, asked("app", "tool", "lib"))
STEPS = (("axiom", ("range", ("wish", 0))), ("axiom", ("range", ("need", "app", ONE, 0))), ("join", 0, 1, ("app",)))


def word(value):
    """Return the word of a version, an option, an index, a name or a variable."""
    plain = {None: "absent", True: "on", False: "off"}
    if isinstance(value, tuple):
        return ".".join(map(str, value)) if isinstance(value[0], int) else "+".join(value)
    return plain[value] if value is None or isinstance(value, bool) else str(value)


def words(name):
    """Return the words of the name of an axiom."""
    if name[0] == "loop":
        picks = " ".join(f"{word(variable)}={word(option)}" for variable, option in name[3])
        return f"loop {' '.join(map(word, name[1]))} ; {word(name[2])} ; {picks or 'never'}"
    line = name[0] in ("range", "feature", "default")
    return " ".join([name[0]] + [word(part) for part in (name[1] + name[2:] if line else name[1:])])


def line_of(at, clause, step):
    told = " ; or ".join(f"{word(variable)} is {' or '.join(map(word, options))}" for variable, options in clause)
    reason = words(step[1]) if step[0] == "axiom" else f"join {step[1]} and {step[2]} at {word(step[3])}"
    return f"{at} : {told or 'nothing'} <- {reason}"


def told(steps, clauses):
    return "\n".join(line_of(at, clause, step) for at, (clause, step) in enumerate(zip(clauses, steps)))


def lines_behind(axioms, clauses):
    """Return the dict from the lines of all steps but loops that may stand behind those with some clauses to their clauses."""
    at = len(clauses)
    found = {line_of(at, its, ("axiom", name)): its for name, its in axioms.items()}
    for one, first in enumerate(clauses):
        for other, second in enumerate(clauses):
            for variable in [variable for variable in dict(first) if variable in dict(second)]:
                its = papers.join(first, second, variable)
                found[line_of(at, its, ("join", one, other, variable))] = its
    return found


def bad_line(axioms, text):
    """Return the index of the first line that is none of a step but loops, None if there is none."""
    clauses = []
    for at, line in enumerate(text.split("\n") if text else []):
        good = lines_behind(axioms, clauses)
        if line not in good:
            return at
        clauses.append(good[line])
    return None


def spoilt(chance, text):
    """Return texts that come from one by small changes."""
    lines = text.split("\n")
    at = chance.randrange(len(lines))
    found = ["\n".join(lines[:at] + lines[at + 1:]), "\n".join(lines[:at] + [lines[at]] + lines[at:]), text + "\n", "\n" + text,
             text + " ", " " + text, text.replace("\n", "\n\n"), text.upper(), "\n".join(reversed(lines))]
    marks = [match.start() for match in re.finditer(r"[ .:;=+0-9]", text)]
    for place in chance.sample(marks, min(8, len(marks))):
        found += [text[:place] + other + text[place + 1:] for other in ("", " ", "  ", "0", "00", "1", ".", "-1", "x")]
    pieces = re.split(r"( )", text)
    for _ in range(4):
        place = chance.randrange(len(pieces))
        found += ["".join(pieces[:place] + [other] + pieces[place + 1:]) for other in (
            "", "absent", "off", "on", "never", "nothing", "or", "1.0.0", "01.0.0", "join", "9" * 30, "a+b", "<-", chance.choice(pieces))]
    return found


class TestTell(unittest.TestCase):
    def test_against_a_telling_of_ones_own(self):
        for case, _, _, steps, clauses, _ in derivations(3):
            text = calls_alike(self, tell, case, steps)
            self.assertEqual(text, told(steps, clauses))
            self.assertTrue(same(calls_alike(self, read_told, case, text), steps))

    def test_papers_of_answers(self):
        for case, _, _ in rows():
            found = answer(case)
            steps = found[1] if found[0] == "none" else found[2][0]
            self.assertTrue(same(read_told(case, tell(case, steps)), steps))
            if found[0] == "none":
                self.assertIn(" : nothing <- ", tell(case, steps).split("\n")[-1])

    def test_empty(self):
        for case in (CASE, EMPTY):
            self.assertEqual([tell(case, ()), read_told(case, "")], ["", ()])

    def test_words(self):
        loud = pack("a", features=(("f", ("g",), asked("b")), ("g", (), ())), defaults=("f",), peers=(("b", LATE),), bars=(("b", EVERY),), files=(("p", ""),))
        case = case_of([loud, pack("b", TWO, (("a", EVERY, ("g",), False),), files=(("p", ""),))], asked("z", "a"), (("a", ONE),))
        loops = (("loop", (("a",), ("b",)), ("b",), ((("a", "f"), False), (("b",), None))), ("loop", (("a", "f"), ("a", "g")), ("a", "f"), ((("b",), TWO),)))
        told = {
            ("range", ("wish", 0)): "nothing <- range wish 0",
            ("range", ("extra", "a", ONE, "f", 0)): "a is absent ; or a+f is off ; or b is 2.0.0 <- range extra a 1.0.0 f 0",
            ("feature", ("need", "b", TWO, 0), "g"): "a+g is on ; or b is absent <- feature need b 2.0.0 0 g",
            ("default", ("need", "b", TWO, 0), ONE, "f"): "a is absent ; or a+f is on ; or b is absent <- default need b 2.0.0 0 1.0.0 f",
            ("also", "a", ONE, "f", "g"): "a is absent ; or a+f is off ; or a+g is on <- also a 1.0.0 f g",
            ("absent", "a", "g"): "a is 1.0.0 ; or a+g is off <- absent a g",
            ("peer", "a", ONE, 0): "a is absent ; or b is 2.0.0 <- peer a 1.0.0 0",
            ("bar", "a", ONE, 0): "a is absent ; or b is absent <- bar a 1.0.0 0",
            ("clash", "a", ONE, "b", TWO): "a is absent ; or b is absent <- clash a 1.0.0 b 2.0.0",
            ("withdrawn", "a", ONE): "a is absent <- withdrawn a 1.0.0",
            loops[1]: "a+f is off ; or b is 2.0.0 <- loop a+f a+g ; a+f ; b=2.0.0",
        }
        for name, line in told.items():
            self.assertEqual(tell(case, (("axiom", name),)), "0 : " + line)
            self.assertEqual(read_told(case, "0 : " + line), (("axiom", name),))
        alone = case_of(case[0][0], asked("z"))
        self.assertEqual(tell(alone, (("axiom", loops[0]),)), "0 : a+f is off ; or b is absent <- loop a b ; b ; a+f=off b=absent")
        never = ("loop", (("a",), ("b",)), ("a",), ())
        self.assertEqual(tell(alone, (("axiom", never),)), "0 : a is absent <- loop a b ; a ; never")
        both = ("loop", (("b",),), ("b",), ((("a", "f"), True), (("a", "g"), False)))
        self.assertEqual(tell(alone, (("axiom", both),)), "0 : a+f is on ; or a+g is off ; or b is absent <- loop b ; b ; a+f=on a+g=off")
        for name in (loops[0], never, both):
            self.assertTrue(same(read_told(alone, tell(alone, (("axiom", name),))), (("axiom", name),)))

    def test_join_of_features(self):
        case = case_of([pack("a", features=(("f", (), ()),)), pack("a", TWO)], (("a", EVERY, ("f",), True),))
        steps = (("axiom", ("feature", ("wish", 0), "f")), ("axiom", ("known", "a", TWO, "f")), ("join", 1, 0, ("a", "f")))
        self.assertEqual(tell(case, steps).split("\n")[2], "2 : a is absent or 1.0.0 <- join 1 and 0 at a+f")
        self.assertEqual(read_told(case, tell(case, steps)), steps)


class TestRead(unittest.TestCase):
    def check(self, case, text, wanted):
        """Check that a text is read, if wanted is None, or refused with the index wanted."""
        if wanted is None:
            self.assertEqual(tell(case, read_told(case, text)), text)
            return
        with self.assertRaises(NoText) as caught:
            read_told(case, text)
        self.assertTrue(same(caught.exception.line, wanted), (text, wanted, caught.exception.line))

    def test_spoilt_texts(self):
        seen = {True: 0, False: 0}
        for at, (case, _, axioms, steps, clauses, chance) in enumerate(derivations(1)):
            if at % 3 == 0 and steps and len(axioms) < 40 and not any(step[0] == "axiom" and step[1][0] == "loop" for step in steps):
                for text in spoilt(chance, told(steps[:6], clauses[:6])):
                    wanted = bad_line(axioms, text)
                    self.check(case, text, wanted)
                    seen[wanted is None] += 1
        self.assertGreater(min(seen.values()), 100)

    def test_lines(self):
        first, second, third = tell(CASE, STEPS).split("\n")
        for lines, wanted in (([first, second, third], None), ([first, third], 1), ([second], 0), ([second, first], 0), ([first, second, third, ""], 3),
                              (["", first], 0), ([first, second, third.replace("2 :", "02 :")], 2), ([first, second, third + " "], 2),
                              ([first, second, third.replace("0 and 1", "1 and 0")], None), ([first, second, third.replace("0 and 1", "0 and 2")], 2),
                              ([first, second, third.replace("0 and 1", "0 and 01")], 2), ([first, second, third.replace("at app", "at lib")], 2),
                              ([first, second, third.replace("lib is", "app is")], 2), ([first, second, "2 : nothing <- "], 2), ([first, "nothing"], 1),
                              ([first, second.replace("1 : ", "1: ")], 1), ([first, second.replace("absent", "off")], 1),
                              ([first, second.replace("0 ", "+0 ")], 1), ([first, second.replace("app 1.0.0 0", "app 1.0.0 1")], 1),
                              ([first, second.replace("need app", "need  app")], 1), ([first, first], 1), ([first.replace("0 :", "-0 :")], 0),
                              (["0 : nothing <- range wish 3"], 0), (["0 : nothing <- range wish"], 0), (["0 : nothing <- join 0 and 0 at app"], 0),
                              ([" "], 0), (["\t"], 0), ([first + " <- " + first], 0), ([first.replace("wish 0", "wish " + "0" * 5000)], 0),
                              ([first.replace("wish 0", "wish " + "9" * 5000)], 0), ([first.replace("range", "ranges")], 0)):
            self.check(CASE, "\n".join(lines), wanted)

    def test_loops(self):
        case = case_of(PACKS, asked("app", "tool"))
        good = "0 : app is 1.0.0 ; or lib is absent ; or tool is 1.0.0 <- loop lib ; lib ; app=1.0.0 tool=1.0.0"
        self.check(case, good, None)
        self.check(case, "0 : app is absent or 1.0.0 ; or lib is absent ; or tool is 1.0.0 <- loop lib ; lib ; app=absent app=1.0.0 tool=1.0.0", None)
        for one, other in (("app=1.0.0 ", ""), ("tool=1.0.0", "tool=2.0.0"), ("loop lib", "loop lib lib"), ("; lib ;", "; app ;"), ("; app=", ";  app="),
                           ("app=1.0.0 tool=1.0.0", "tool=1.0.0 app=1.0.0"), ("app=1.0.0 tool=1.0.0", "never"), ("app=1.0.0", "app=on"), ("app=", "app+f="),
                           (" ; lib ; ", " lib "), ("tool=1.0.0", "tool=1.0.0 ; never"), ("app=1.0.0", "app"), ("=1.0.0 tool", "=1.0.0=1.0.0 tool"),
                           ("app=1.0.0 ", "app=absent app=1.0.0 "), ("loop lib", "loop"), ("loop", "loop+"), ("tool=", "too-l="), ("app=1", "app=01")):
            self.check(case, good.replace(one, other), 0)
        self.check(CASE, good, 0)

    def test_of_another_case(self):
        for case, _, axioms, steps, clauses, _ in derivations(1)[::4]:
            text = told(steps, clauses)
            if not any(step[0] == "axiom" and step[1][0] == "loop" for step in steps):
                self.check(CASE, text, bad_line(papers.axioms(CASE), text))

    def test_wrong(self):
        text = tell(CASE, STEPS)
        for value in values():
            if not same(value, ((), (), {}, "newest")):
                for other in (text, "", None, "0", value):
                    with self.assertRaises(Wrong) as caught:
                        read_told(value, other)
                    self.assertTrue(same(caught.exception.place, 0))
            if not isinstance(value, str):
                with self.assertRaises(Wrong) as caught:
                    read_told(CASE, value)
                self.assertTrue(same(caught.exception.place, 1))
            elif value:
                self.check(CASE, value, 0)

    def test_bent_cases(self):
        small = case_of([pack("a", features=(("f", (), ()),))], asked("a"), lock={"a": (ONE, ())})
        text = tell(small, (("axiom", ("range", ("wish", 0))),))
        seen = set()
        for value in bent(small):
            try:
                self.assertEqual(read_told(value, text), (("axiom", ("range", ("wish", 0))),))
                seen.add(None)
            except Wrong as error:
                self.assertTrue(same(error.place, 0))
                seen.add(Wrong)
            except NoText as error:
                self.assertTrue(same(error.line, 0))
                seen.add(NoText)
        self.assertEqual(seen, {None, Wrong, NoText})


if __name__ == "__main__":
    unittest.main()
