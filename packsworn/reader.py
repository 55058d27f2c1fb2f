"""Reads registries, wishes and cases from their texts, line by line."""

from packsworn.errors import NoRange, NoText, Wrong
from packsworn.forms import MODES, is_content, is_path, paths_touch
from packsworn.rangetexts import range_of_words, words_of
from packsworn.versions import is_name, version_told

MARKS = ";()"
# The lines of a text come by rising stages.
STAGES = {
    "pack": 0, "needs": 0, "peer": 0, "bar": 0, "feature": 0, "extra": 0, "default": 0, "file": 0,
    "withdrawn": 1, "wish": 2, "lock": 3, "mode": 4,
}


def must(good, at):
    """Refuse the line with an index, if something about it is not good."""
    if not good:
        raise NoText(at)


def parts_of(words):
    """Return the lists of the words between the semicolons."""
    parts = [[]]
    for word in words:
        if word == ";":
            parts.append([])
        else:
            parts[-1].append(word)
    return parts


def one_name(words, at):
    """Return the NAME that is the only word."""
    must(len(words) == 1 and is_name(words[0]), at)
    return words[0]


def mark_told(words, at):
    """Return the NAME and the VERSION that are the only two words."""
    must(len(words) == 2, at)
    version = version_told(words[1])
    must(is_name(words[0]) and version is not None, at)
    return words[0], version


def names_told(words, at):
    """Return the LOT of the NAMES that the words are, at least one, in any order, none twice."""
    names = tuple(sorted(set(words)))
    must(names and len(names) == len(words) and all([is_name(name) for name in names]), at)
    return names


def names_behind(word, words, at):
    """Return the LOT of the NAMES behind a word."""
    must(words[:1] == [word], at)
    return names_told(words[1:], at)


def range_told(words, at):
    """Return the RANGE that words tell."""
    try:
        return range_of_words(words)
    except NoRange:
        raise NoText(at) from None


def note_told(words, at):
    """Return the NOTE that words tell."""
    parts = parts_of(words)
    must(len(parts) == 2, at)
    return one_name(parts[0], at), range_told(parts[1], at)


def need_told(words, at):
    """Return the NEED that words tell."""
    parts = parts_of(words)
    bare = len(parts) > 2 and parts[-1] == ["bare"]
    if bare:
        parts = parts[:-1]
    must(2 <= len(parts) <= 3, at)
    features = names_behind("with", parts[2], at) if len(parts) == 3 else ()
    return one_name(parts[0], at), range_told(parts[1], at), features, bare


def content_told(shown, at):
    """Return the content that the end of a line shows."""
    parts = shown.split("\\\\")
    # The doubled ones are gone by the split, so each backslash left is bad but ahead of an `n`.
    must(all([part.count("\\") == part.count("\\n") for part in parts]), at)
    content = "\\".join([part.replace("\\n", "\n") for part in parts])
    must(is_content(content), at)
    return content


def file_told(line, at):
    """Return the path and the content that a `file` line tells."""
    head, colon, shown = line.partition(":")
    words = words_of(head, MARKS)
    must(colon == ":" and len(words) == 2 and is_path(words[1]), at)
    return words[1], content_told(shown.removeprefix(" "), at)


class Draft:
    """A pack of which some lines have been read."""

    def __init__(self, name, version):
        self.name = name
        self.version = version
        self.needs = []
        self.peers = []
        self.bars = []
        self.alsos = {}
        self.extras = {}
        self.latest = None
        self.defaults = None
        self.contents = {}

    def lacks_feature(self):
        """Tell whether some feature that is called was not told."""
        called = [name for also in list(self.alsos.values()) for name in also]
        return any([name not in self.alsos for name in called + list(self.defaults or ())])

    def told_pack(self):
        """Return the PACK that the lines tell."""
        features = [(name, self.alsos[name], tuple(self.extras[name])) for name in sorted(self.alsos)]
        files = [(path, self.contents[path]) for path in sorted(self.contents)]
        return (self.name, self.version, tuple(self.needs), tuple(self.peers), tuple(self.bars),
                tuple(features), self.defaults or (), tuple(files))


def add_feature(draft, words, at):
    """Add what a `feature` line tells."""
    parts = parts_of(words)
    must(len(parts) <= 2, at)
    name = one_name(parts[0], at)
    must(name not in draft.alsos, at)
    draft.alsos[name] = names_behind("also", parts[1], at) if len(parts) == 2 else ()
    draft.extras[name] = []
    draft.latest = name


def add_extra(draft, words, at):
    """Add what an `extra` line tells to the feature that it stands behind."""
    must(draft.latest is not None, at)
    draft.extras[draft.latest].append(need_told(words, at))


def add_default(draft, words, at):
    """Add what the `default` line tells."""
    must(draft.defaults is None, at)
    draft.defaults = names_told(words, at)


def add_file(draft, line, at):
    """Add what a `file` line tells."""
    path, content = file_told(line, at)
    must(not any([paths_touch(path, other) for other in draft.contents]), at)
    draft.contents[path] = content


def add_line(draft, word, words, line, at):
    """Add what a line that belongs to a pack tells; words are those behind its first one."""
    if word not in ("feature", "extra"):
        draft.latest = None
    if word == "needs":
        draft.needs.append(need_told(words, at))
    elif word == "peer":
        draft.peers.append(note_told(words, at))
    elif word == "bar":
        draft.bars.append(note_told(words, at))
    elif word == "feature":
        add_feature(draft, words, at)
    elif word == "extra":
        add_extra(draft, words, at)
    elif word == "default":
        add_default(draft, words, at)
    else:
        add_file(draft, line, at)


def add_lock(reading, words, at):
    """Add what a `lock` line tells."""
    parts = parts_of(words)
    must(len(parts) <= 2, at)
    name, version = mark_told(parts[0], at)
    must(name not in reading.held, at)
    reading.held[name] = (version, names_behind("with", parts[1], at) if len(parts) == 2 else ())


def add_other(reading, word, words, at):
    """Add what a line that begins a pack or belongs to none tells; words are those behind its first one."""
    if word == "pack":
        mark = mark_told(words, at)
        must(mark not in reading.packs, at)
        reading.draft = Draft(mark[0], mark[1])
    elif word == "withdrawn":
        mark = mark_told(words, at)
        must(mark in reading.packs and mark not in reading.withdrawn, at)
        reading.withdrawn[mark] = True
    elif word == "wish":
        reading.wishes.append(need_told(words, at))
    elif word == "lock":
        add_lock(reading, words, at)
    else:
        must(len(words) == 1 and words[0] in MODES, at)
        reading.mode = words[0]


class Reading:
    """What the lines of a text have told so far."""

    def __init__(self, stage, last):
        self.stage = stage
        self.last = last
        self.draft = None
        self.packs = {}
        self.withdrawn = {}
        self.wishes = []
        self.held = {}
        self.mode = None

    def told_registry(self):
        """Return the REGISTRY that was told."""
        packs = [self.packs[mark] for mark in sorted(self.packs)]
        return tuple(packs), tuple(sorted(self.withdrawn))

    def end_pack(self, at):
        """End the pack that was begun, if there is one, at the line with an index."""
        if self.draft is not None:
            must(not self.draft.lacks_feature(), at)
            self.packs[(self.draft.name, self.draft.version)] = self.draft.told_pack()
            self.draft = None

    def take(self, line, at):
        """Take the line with an index."""
        words = words_of(line, MARKS)
        if not words or words[0].startswith("#"):
            return
        word = words[0]
        must(word in STAGES and self.stage <= STAGES[word] <= self.last, at)
        must(self.mode is None, at)
        self.stage = STAGES[word]
        if word != "pack" and self.stage == STAGES["pack"]:
            must(self.draft is not None, at)
            add_line(self.draft, word, words[1:], line, at)
        else:
            self.end_pack(at)
            add_other(self, word, words[1:], at)


def read_lines(text, stage, last):
    """Return the Reading of a text whose lines belong to the stages from one to another."""
    if not isinstance(text, str):
        raise Wrong(0)
    lines = text.split("\n")
    reading = Reading(stage, last)
    for at, line in enumerate(lines):
        reading.take(line, at)
    reading.end_pack(len(lines))
    must(last < STAGES["mode"] or reading.mode is not None, len(lines))
    return reading


def read_registry(text):
    """Return the REGISTRY that a text shows; raise NoText(line) if it shows none."""
    return read_lines(text, STAGES["pack"], STAGES["withdrawn"]).told_registry()


def read_wish(text):
    """Return the WISH that a text shows; raise NoText(line) if it shows none."""
    return tuple(read_lines(text, STAGES["wish"], STAGES["wish"]).wishes)


def read_case(text):
    """Return the CASE that a text shows; raise NoText(line) if it shows none."""
    reading = read_lines(text, STAGES["pack"], STAGES["mode"])
    lock = {name: reading.held[name] for name in sorted(reading.held)}
    return reading.told_registry(), tuple(reading.wishes), lock, reading.mode
