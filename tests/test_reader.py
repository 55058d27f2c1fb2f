"""[18]: registries, wishes and cases read, also from texts that are told loosely, and refused."""

import random
import unittest

from packsworn.errors import NoText, Wrong
from packsworn.forms import is_case, is_registry, is_wish
from packsworn.rangetexts import read_range, show_range
from packsworn.reader import read_case, read_registry, read_wish
from packsworn.texts import show_case, show_registry, show_wish
from tests.kinds import calls_alike, same, values
from tests.samples import EVERY, ONE, PLAIN, TWO, full_case, full_pack, some_case

WORDS = ["pack a 1.0.0", "pack b 2.0.0", "pack a 1.0", "needs b ; all", "needs a;none;bare", "needs a", "peer b ; all",
         "bar b ; from 1.0.0", "bar b ; from", "feature f", "feature g ; also f", "feature h ; also i", "extra b ; all",
         "default f", "default g f", "file x : y", "file x/y:z", "file z : \\", "withdrawn a 1.0.0", "withdrawn b 2.0.0",
         "wish a ; all", "wish a ; all ; with f", "lock a 1.0.0", "lock b 1.0.0 ; with f g", "mode newest", "mode old",
         "# mode", "", "   ", "packs", ";", "pack", "default", "feature i"]


def gaps(chance):
    return " " * chance.choice([1, 1, 2, 5])


def loose_range(chance, text):
    """Return a range text in other words."""
    one = read_range(text)
    for _ in range(chance.randint(0, 3)):
        text = chance.choice([f"({text})", f"not(not({text}))", f"( {text} ) and all", f"none or {text}"])
    assert read_range(text) == one
    return text


def loose_words(chance, words):
    """Return the words behind `with`, `also` and `default` in another order, and a range in other words."""
    parts = " ".join(words).split(" ; ")
    for at, part in enumerate(parts):
        first, *others = part.split(" ")
        if first in ("with", "also", "default"):
            parts[at] = " ".join([first] + chance.sample(others, len(others)))
    if words[0] in ("needs", "peer", "bar", "extra", "wish"):
        parts[1] = loose_range(chance, parts[1])
    return chance.choice([" ; ", ";", "; ", "  ;"]).join(parts)


def loose_line(chance, line):
    """Return a line told loosely."""
    if line.startswith("file "):
        head, _, content = line.partition(" : ")
        colon = chance.choice([" : ", ": ", "  : "] + ([] if content.startswith(" ") else [":", " :"]))
        return gaps(chance)[1:] + head.replace(" ", gaps(chance)) + colon + content
    text = loose_words(chance, line.split(" "))
    return gaps(chance)[1:] + gaps(chance).join(text.split(" ")) + gaps(chance)[1:]


def loose_pack(chance, lines):
    """Return the lines of a pack in another order; lines of one kind, but files and features, keep theirs."""
    groups, rest = [], {}
    for line in lines[1:]:
        word = line.split(" ")[0]
        if word == "feature":
            groups.append([line])
        elif word == "extra":
            groups[-1].append(line)
        elif word == "file":
            groups.append([line])
        else:
            rest.setdefault(word, []).append(line)
    queue = groups + [word for word in rest for _ in rest[word]]
    found = [lines[0]]
    for part in chance.sample(queue, len(queue)):
        found += part if isinstance(part, list) else [rest[part].pop(0)]
    return found


def loose_text(chance, text):
    """Return a text that tells the same as one that was shown, told loosely."""
    packs, marks, others = [], [], []
    for line in text.split("\n"):
        word = line.split(" ")[0]
        if word == "pack":
            packs.append([line])
        elif word in ("needs", "peer", "bar", "feature", "extra", "default", "file"):
            packs[-1].append(line)
        else:
            (marks if word in ("withdrawn", "lock") else others).append(line)
    lines = [line for pack in chance.sample(packs, len(packs)) for line in loose_pack(chance, pack)]
    wishes = [line for line in others if line.startswith("wish")]
    mixed = chance.sample(marks, len(marks))
    lines += [line for line in mixed if line.startswith("withdrawn")] + wishes
    lines += [line for line in mixed if line.startswith("lock")] + [line for line in others if line.startswith("mode")]
    found = []
    for line in lines:
        while chance.random() < 0.2:
            found.append(chance.choice(["", "  ", "#", " # pack a", "#pack a 1.0.0", "   #"]))
        found.append(loose_line(chance, line))
    return "\n".join(found + [""] * chance.randint(0, 2))


class TestReading(unittest.TestCase):
    def test_there_and_back(self):
        for case in [full_case()] + [some_case(seed) for seed in range(150)]:
            self.assertTrue(same(calls_alike(self, read_case, show_case(case)), case))
            self.assertTrue(same(read_registry(show_registry(case[0])), case[0]))
            self.assertTrue(same(read_wish(show_wish(case[1])), case[1]))

    def test_loose_texts(self):
        for seed in range(300):
            chance = random.Random(seed)
            case = some_case(seed) if seed % 5 else full_case()
            text = loose_text(chance, show_case(case))
            found = read_case(text)
            self.assertTrue(same(found, case), text)
            self.assertEqual(list(found[2]), sorted(case[2]))
            self.assertTrue(same(read_registry(loose_text(chance, show_registry(case[0]))), case[0]))

    def test_nothing(self):
        for text in ("", " ", "\n", "\n  \n# x\n"):
            self.assertTrue(same(read_registry(text), ((), ())))
            self.assertTrue(same(read_wish(text), ()))
        self.assertTrue(same(read_case("mode newest"), (((), ()), (), {}, "newest")))
        self.assertTrue(same(read_case("\n#\n mode   oldest \n"), (((), ()), (), {}, "oldest")))

    def test_contents(self):
        for line, content in (("file p :", ""), ("file p : ", ""), ("file p:", ""), ("file p:x", "x"), ("file p: x", "x"),
                              ("file p :  x", " x"), ("file p : x  ", "x  "), ("  file   p  :x ", "x "),
                              ("file p : :", ":"), ("file p :::", "::"), ("file p : a\\nb", "a\nb"), ("file p : \\\\n", "\\n"),
                              ("file p : \\\\\\n", "\\\n"), ("file p : \\n\\\\", "\n\\"), ("file p : #;( ", "#;( "),
                              ("file p : " + "~" * 200, "~" * 200), ("file p : " + "\\n" * 200, "\n" * 200)):
            found = read_registry("pack a 1.0.0\n" + line)
            self.assertTrue(same(found, ((("a", ONE) + PLAIN + ((("p", content),),),), ())), line)

    def test_order_of_lines_of_a_pack(self):
        text = ("pack b 2.0.0\ndefault g f\nfile z : 1\nfeature g\nextra y ; all ; bare\n# between\n\nextra x ; all\n"
                "needs n ; all\nfeature f ; also g f\nfile a : 2\nneeds m ; all\nbar k ; all\npeer j ; all\npack a 1.0.0")
        packs = (("a", ONE, ()) + PLAIN,
                 ("b", TWO, (("n", EVERY, (), False), ("m", EVERY, (), False)), (("j", EVERY),), (("k", EVERY),),
                  (("f", ("f", "g"), ()), ("g", (), (("y", EVERY, (), True), ("x", EVERY, (), False)))), ("f", "g"),
                  (("a", "2"), ("z", "1"))))
        self.assertTrue(same(read_registry(text), (packs, ())))

    def test_words_of_their_own(self):
        self.assertEqual(read_wish("wish app;not(1.0.0 or 2.0.0);with b a;bare"),
                         (("app", read_range("not ( 1.0.0 or 2.0.0 )"), ("a", "b"), True),))
        self.assertEqual(read_wish("wish bare;all;with bare with;bare"), (("bare", EVERY, ("bare", "with"), True),))
        self.assertEqual(read_wish("wish with;all;with bare"), (("with", EVERY, ("bare",), False),))

    def test_pack_that_stands_alone(self):
        self.assertTrue(same(read_registry("\n".join(["", *show_registry(((full_pack(),), ())).split("\n")])),
                             ((full_pack(),), ())))


class TestRefusing(unittest.TestCase):
    def refused(self, call, text, line):
        with self.assertRaises(NoText, msg=text[:200]) as caught:
            call(text)
        self.assertTrue(same(caught.exception.line, line), (text[:200], caught.exception.line))

    def test_lines_that_are_none(self):
        for line in ("packs a 1.0.0", "pack", "pack a", "pack a 1.0", "pack A 1.0.0", "pack a 1.0.0 b", "pack a 01.0.0",
                     "pack a 1.0.0 ;", "pack;a 1.0.0", "pack a\t1.0.0", "a", ";", "(", "x # y", "pack " + "a" * 21 + " 1.0.0",
                     "pack a 1000000.0.0", "pack 1.0.0 a", "Pack a 1.0.0", "pack\ta 1.0.0", "\t", "pack a 1.0.0\r"):
            for call in (read_registry, read_case):
                self.refused(call, "# x\n\n" + line + "\npack b 1.0.0", 2)

    def test_lines_of_packs(self):
        for line in ("needs", "needs b", "needs b all", "needs b ;", "needs ; all", "needs b ; al", "needs b c ; all",
                     "needs b ; all ;", "needs b ; all ; with", "needs b ; all ; with B", "needs b ; all ; with c c",
                     "needs b ; all ; bare ; bare", "needs b ; all ; bare ; with c", "needs b ; bare", "needs b ; ( all",
                     "needs b ; all ; with c ; bare ;", "needs b ; all ; with c ; with d", "needs b ; all ; also c",
                     "needs b ; all ; bare c", "needs b ; all ; c", "needs b ;; all", "needs B ; all", "needs b : all",
                     "needs b ; " + "not " * 31 + "all", "needs b ; below", "needs b ; all ; with c;d",
                     "peer b", "peer b ;", "peer b ; all ; bare", "peer ; all", "peer b ; x", "peer b ; all ; with c",
                     "bar b", "bar b ; all ;", "bar b ; from", "bar 1 ; all",
                     "feature", "feature f g", "feature f ;", "feature f ; also", "feature f ; g", "feature f ; also g g",
                     "feature f ; also g ; also h", "feature F", "feature ; also g", "feature f ; with g",
                     "extra b ; all", "default", "default f f", "default F", "default f ; g", "default f,g", "default ;",
                     "file", "file p", "file : x", "file p q : x", "file p/ : x", "file /p : x", "file P : x", "file p;q : x",
                     "file p : \\", "file p : \\\\\\", "file p : \\x", "file p : a\\tb", "file p : \t", "file p : x\r",
                     "file p : " + "x" * 201, "file p : " + "\\n" * 201, "file p : \\N", "file: p : x", "file(p : x",
                     "file p : \u00e9", "file p ; : x", "filep : x"):
            for call in (read_registry, read_case):
                self.refused(call, "pack a 1.0.0\n" + line + "\nfeature f", 1)

    def test_lines_that_belong_to_no_pack(self):
        for line in ("needs b ; all", "peer b ; all", "bar b ; all", "feature f", "extra b ; all", "default f", "file p : x"):
            for call in (read_registry, read_case):
                self.refused(call, line + "\npack a 1.0.0", 0)
                self.refused(call, "pack a 1.0.0\nwithdrawn a 1.0.0\n" + line, 2)
            self.refused(read_wish, line, 0)

    def test_told_again(self):
        for text, line in (("pack a 1.0.0\npack b 1.0.0\npack a 1.0.0", 2), ("pack a 1.0.0\npack a 1.0.0", 1),
                           ("pack a 1.0.0\nfeature f\nfeature g\nfeature f", 3), ("pack a 1.0.0\nfeature f\nfeature f", 2),
                           ("pack a 1.0.0\nfeature f\ndefault f\ndefault f", 3), ("pack a 1.0.0\ndefault f\ndefault g", 2),
                           ("pack a 1.0.0\nwithdrawn a 1.0.0\nwithdrawn a 1.0.0", 2),
                           ("pack a 1.0.0\nfile p : x\nfile p : y", 2), ("pack a 1.0.0\nfile p : x\nfile p/q : y", 2),
                           ("pack a 1.0.0\nfile p/q/r : x\nfile z : \nfile p : y", 3)):
            self.refused(read_registry, text, line)
            self.refused(read_case, text + "\nmode newest", line)
        self.refused(read_case, "lock a 1.0.0\nlock a 2.0.0\nmode newest", 1)
        self.refused(read_case, "mode newest\nmode newest", 1)
        self.refused(read_case, "mode newest\nwish a ; all", 1)

    def test_alike_but_not_again(self):
        for text in ("pack a 1.0.0\nfile p : x\npack b 1.0.0\nfile p : x", "pack a 1.0.0\nfile p : \nfile p-q : \nfile pq/r :",
                     "pack a 1.0.0\nfeature f\npack b 1.0.0\nfeature f", "pack a 1.0.0\nneeds b ; all\nneeds b ; all",
                     "pack a 1.0.0\npeer b ; all\npeer b ; all\nbar b ; all\nbar b ; all", "pack a 1.0.0\npack a 2.0.0",
                     "pack a 1.0.0\nfeature f\nextra b ; all\nextra b ; all", "pack a 1.0.0\nfeature f ; also f"):
            self.assertTrue(is_registry(read_registry(text)))

    def test_withdrawn(self):
        self.refused(read_registry, "withdrawn a 1.0.0", 0)
        for line in ("withdrawn a 2.0.0", "withdrawn b 1.0.0", "withdrawn a", "withdrawn a 1.0.0 x", "withdrawn A 1.0.0",
                     "withdrawn a ; 1.0.0", "withdrawn a 1.0"):
            self.refused(read_registry, "pack a 1.0.0\n\n" + line, 2)

    def test_order_of_stages(self):
        lines = ["pack a 1.0.0", "withdrawn a 1.0.0", "wish a ; all", "lock a 1.0.0", "mode newest"]
        self.assertTrue(is_case(read_case("\n".join(lines))))
        for at in range(5):
            for behind in range(at):
                text = "\n".join(lines[:at + 1] + [["pack b 1.0.0", *lines[1:]][behind]])
                self.refused(read_case, text, at + 1)

    def test_lines_of_other_texts(self):
        for line in ("wish a ; all", "lock a 1.0.0", "mode newest"):
            self.refused(read_registry, "pack a 1.0.0\n" + line, 1)
        for line in ("pack a 1.0.0", "withdrawn a 1.0.0", "lock a 1.0.0", "mode newest", "wish a", "wish", "wish a ; x",
                     "wish a ; all ; with", "wishes a ; all"):
            self.refused(read_wish, "wish b ; all\n" + line, 1)

    def test_locks_and_modes(self):
        for line in ("lock", "lock a", "lock a 1.0", "lock A 1.0.0", "lock a 1.0.0 ;", "lock a 1.0.0 ; with",
                     "lock a 1.0.0 ; with f f", "lock a 1.0.0 ; f", "lock a 1.0.0 ; with f ; bare", "lock a ; 1.0.0",
                     "mode", "mode new", "mode newest newest", "mode newest ;", "mode Newest", "mode ; newest"):
            self.refused(read_case, line + "\nmode newest", 0)

    def test_extra_behind_something_else(self):
        for line in ("needs b ; all", "peer b ; all", "bar b ; all", "default f", "file p : x"):
            self.refused(read_registry, f"pack a 1.0.0\nfeature f\nextra b ; all\n{line}\nextra b ; all", 4)
        self.refused(read_registry, "pack a 1.0.0\nfeature f\npack b 1.0.0\nextra b ; all", 3)
        self.refused(read_registry, "pack a 1.0.0\nextra b ; all", 1)
        self.assertTrue(is_registry(read_registry("pack a 1.0.0\nfeature f\n\n# x\nextra b ; all\n \nextra b ; all")))

    def test_features_not_told(self):
        for line in ("default f", "feature g ; also f", "feature g ; also f g"):
            for ending in ("pack b 1.0.0", "pack a 1.0.0", "withdrawn a 1.0.0", "wish a ; all", "lock a 1.0.0",
                           "mode newest"):
                self.refused(read_case, f"pack a 1.0.0\n{line}\n\nfile p : x\n{ending}\nmode newest", 4)
            self.refused(read_registry, f"pack a 1.0.0\n{line}", 2)
            self.refused(read_registry, f"pack a 1.0.0\n{line}\n", 3)
            self.refused(read_registry, f"pack a 1.0.0\n{line}\n\n# x", 4)
            self.refused(read_registry, f"pack b 1.0.0\nfeature f\npack a 1.0.0\n{line}", 4)
            self.refused(read_case, f"pack a 1.0.0\n{line}", 2)
            self.assertTrue(is_registry(read_registry(f"pack a 1.0.0\n{line}\nneeds x ; all\nfeature f")))

    def test_mode_not_told(self):
        for text, many in (("", 1), ("\n", 2), ("pack a 1.0.0", 1), ("pack a 1.0.0\nlock a 1.0.0\n", 3), ("#\n#\n#", 3),
                           ("#mode newest", 1)):
            self.refused(read_case, text, many)

    def test_wrong(self):
        for call in (read_registry, read_wish, read_case):
            for value in values():
                if isinstance(value, str):
                    try:
                        call(value)
                    except NoText as error:
                        self.assertIn(error.line, range(value.count("\n") + 2))
                else:
                    with self.assertRaises(Wrong) as caught:
                        call(value)
                    self.assertTrue(same(caught.exception.place, 0))

    def test_bent_texts(self):
        """A text of any lines is read as a case, or refused at the first line up to which it cannot go on."""
        read = 0
        for seed in range(3000):
            chance = random.Random(seed)
            lines = [chance.choice(WORDS) for _ in range(chance.randint(0, 6))]
            if seed % 2:
                lines = ["pack a 1.0.0", *sorted(lines, key=WORDS.index), "mode newest"]
            try:
                case = read_case("\n".join(lines))
                self.assertTrue(is_case(case))
                self.assertTrue(same(read_case(show_case(case)), case))
                read += 1
            except NoText as error:
                self.assertTrue(is_case(read_case("\n".join(completed(lines[:error.line])))), (lines, error.line))
                if error.line < len(lines):
                    self.refused(read_case, "\n".join(completed(lines[:error.line + 1])), error.line)
        self.assertGreater(read, 100)

    def test_wishes_of_any_lines(self):
        for seed in range(200):
            chance = random.Random(seed)
            lines = [chance.choice(WORDS[-16:]) for _ in range(chance.randint(1, 3))]
            try:
                self.assertTrue(is_wish(read_wish("\n".join(lines))))
            except NoText as error:
                self.assertTrue(is_wish(read_wish("\n".join(lines[:error.line]))))


def completed(lines):
    """Return lines of a case with what they lack behind them."""
    told, called = set(), set()
    for line in lines:
        words = line.replace(";", " ; ").split()
        if words[:1] == ["pack"]:
            told, called = set(), set()
        if words[:1] == ["feature"]:
            told.add(words[1])
            called |= set(words[4:])
        if words[:1] == ["default"]:
            called |= set(words[1:])
    ended = [line for line in lines if line.split()[:1] and line.split()[0] in ("withdrawn", "wish", "lock", "mode")]
    lacking = [] if ended else [f"feature {name}" for name in sorted(called - told)]
    return lines + lacking + ([] if any(line.startswith("mode") for line in lines) else ["mode newest"])


if __name__ == "__main__":
    unittest.main()
