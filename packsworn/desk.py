"""A desk: a house that is led by lines."""

from packsworn.errors import NoCommand, Wrong
from packsworn.forms import MODES, is_ascending
from packsworn.house import House
from packsworn.locks import show_lock
from packsworn.rangetexts import words_of
from packsworn.solver import answer
from packsworn.texts import show_content
from packsworn.versions import FIGURES, is_name, version_told
from packsworn.words import tell

MOST_FIGURES = 9
LINE_FEED = "|"
# The words behind the first one of those commands that always have the same number of them.
FORMS = {
    "withdraw": ("name", "version"), "restore": ("name", "version"), "back": ("number",), "repair": (), "start": (),
    "power": (), "install": ("mode",), "plan": ("mode",), "why": ("mode",), "tree": (), "lock": (), "list": (),
    "look": (),
}


def must(good):
    """Refuse a line if something about it is not good."""
    if not good:
        raise NoCommand()


def number_told(word):
    """Return the integer that a word shows."""
    must(1 <= len(word) <= MOST_FIGURES and all([sign in FIGURES for sign in word]))
    must(word == "0" or word[0] != "0")
    return int(word)


def part_told(kind, word):
    """Return what a word of some kind tells."""
    if kind == "number":
        return number_told(word)
    if kind == "version":
        version = version_told(word)
        must(version is not None)
        return version
    must(is_name(word) if kind == "name" else word in MODES)
    return word


def text_told(text):
    """Return a TEXT with line feeds in the place of its words for them."""
    # Parted at each single blank, so that all blanks but those beside such a word come back.
    words = text.split(" ")
    found = []
    for at, word in enumerate(words):
        if at > 0 and LINE_FEED not in (word, words[at - 1]):
            found.append(" ")
        found.append("\n" if word == LINE_FEED else word)
    return "".join(found)


def cut_told(words):
    """Return what sets the fuse: two numbers, or one and None."""
    must(1 <= len(words) <= 2)
    numbers = [number_told(word) for word in words]
    return numbers + [None] if len(numbers) == 1 else numbers


def numbers_told(words):
    """Return the LOT of the integers that words show in ascending order."""
    numbers = tuple([number_told(word) for word in words])
    must(is_ascending(numbers))
    return numbers


def parts_told(line, words):
    """Return the list of what stands behind the first word of a line."""
    word = words[0]
    if word in ("publish", "wish"):
        return [text_told(line.strip(" ").removeprefix(word).strip(" "))]
    if word == "collect":
        return [numbers_told(words[1:])]
    if word == "cut":
        return cut_told(words[1:])
    must(word in FORMS)
    kinds = FORMS[word]
    must(len(words) == len(kinds) + 1)
    return [part_told(kind, part) for kind, part in zip(kinds, words[1:])]


def lines_in(text):
    """Return the list of the lines of a text; "" has none."""
    return text.split("\n") if text else []


def publish(house, parts):
    """Publish what a text shows."""
    house.publish(parts[0])


def withdraw(house, parts):
    """Withdraw a pack."""
    house.withdraw(parts[0], parts[1])


def restore(house, parts):
    """Restore a pack."""
    house.restore(parts[0], parts[1])


def wish(house, parts):
    """Wish what each line of a text tells."""
    house.wish_for("\n".join([f"wish {line}" for line in lines_in(parts[0])]))


def back(house, parts):
    """Lead back to a generation."""
    house.back(parts[0])


def collect(house, parts):
    """Keep some generations alone."""
    house.collect(parts[0])


def repair(house, _):
    """Repair generations."""
    house.repair()


def start(house, _):
    """Do a starting."""
    house.start()


def cut(house, parts):
    """Set the fuse."""
    house.fuse(parts[0], parts[1])


def power(house, _):
    """Bring power back."""
    house.power()


def install(house, parts):
    """Install a plan; return what is said of it."""
    return ["done"] if house.install(parts[0])[0] == "plan" else ["none"]


def plan_lines(house, parts):
    """Return the lines of the plan."""
    found = answer(house.case_of(parts[0]))
    return lines_in(show_lock(found[1])) if found[0] == "plan" else ["none"]


def why_lines(house, parts):
    """Return the lines of the paper."""
    case = house.case_of(parts[0])
    found = answer(case)
    return lines_in(tell(case, found[2][0] if found[0] == "plan" else found[1]))


def tree_lines(house, _):
    """Return the lines of the tree."""
    tree = house.tree()
    return [f"{path} : {show_content(tree[path])}" for path in tree]


def lock_lines(house, _):
    """Return the lines of the lock."""
    return lines_in(house.lock_text() or "")


def number_lines(house, _):
    """Return the lines of the SOUND generations."""
    return [str(number) for number in house.numbers()]


def finding_lines(house, _):
    """Return the lines of the findings."""
    return [f"{number} {word} {path}" if path else f"{number} {word}" for number, word, path in house.findings()]


# These only change the house; the others return what they tell.
CHANGES = {
    "publish": publish, "withdraw": withdraw, "restore": restore, "wish": wish, "back": back, "collect": collect,
    "repair": repair, "start": start, "cut": cut, "power": power,
}
ANSWERS = {
    "install": install, "plan": plan_lines, "why": why_lines, "tree": tree_lines, "lock": lock_lines,
    "list": number_lines, "look": finding_lines,
}


class Desk:
    """A house that is led by lines."""

    def __init__(self, files):
        self.home = House(files)

    def execute(self, line):
        """Do what a line tells, and return the lines of the answer; raise NoCommand() if it tells no command."""
        if not isinstance(line, str):
            raise Wrong(0)
        words = words_of(line, "")
        must(words and "\n" not in line)
        parts = parts_told(line, words)
        if words[0] in ANSWERS:
            tell_answer = ANSWERS[words[0]]
            return tell_answer(self.home, parts)
        change = CHANGES[words[0]]
        change(self.home, parts)
        return ["done"]

    def house(self):
        """Return a twin of the House."""
        return self.home.twin()
