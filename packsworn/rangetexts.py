"""Texts of ranges: words with `and`, `or`, `not` and brackets, read and shown."""

from packsworn.errors import NoRange, Wrong
from packsworn.ranges import all_of, just, meet_of, none_of, rest, stretch, union_of
from packsworn.versions import FIRST_VERSION, after, raised, show_version, version_told

BRACKETS = "()"
MOST_OPEN = 30


def words_of(text, marks):
    """Return the words of a text that are parted by blanks; each mark is a word of its own."""
    for mark in marks:
        text = text.replace(mark, f" {mark} ")
    return [word for word in text.split(" ") if word]


def word_at(words, at):
    """Return the word at a place; where there is none, the text is cut short there."""
    if at == len(words):
        raise NoRange(at)
    return words[at]


def is_word(words, at, word):
    """Tell whether a word stands at a place."""
    return at < len(words) and words[at] == word


def version_at(words, at):
    """Return the version that is shown at a place."""
    version = version_told(word_at(words, at))
    if version is None:
        raise NoRange(at)
    return version


def range_from(word, version):
    """Return the range that a word tells with the version behind it."""
    if word == "below":
        return stretch(FIRST_VERSION, version)
    if word == "near":
        return stretch(version, raised(version, 0))
    if word == "close":
        return stretch(version, raised(version, 1))
    return stretch(version, None)


def atom_at(words, at):
    """Return the range of the atom that begins at a place, and the place behind it."""
    word = words[at]
    if word == "all":
        return all_of(), at + 1
    if word == "none":
        return none_of(), at + 1
    if word in ("from", "below", "near", "close"):
        return range_from(word, version_at(words, at + 1)), at + 2
    return just(version_at(words, at)), at + 1


def term_at(words, at, opened):
    """Return the range of the term that begins at a place, and the place behind it."""
    word = word_at(words, at)
    if word not in ("not", "("):
        return atom_at(words, at)
    if opened == MOST_OPEN:
        raise NoRange(at)
    if word == "not":
        one, end = term_at(words, at + 1, opened + 1)
        return rest(one), end
    one, end = text_at(words, at + 1, opened + 1)
    if not is_word(words, end, ")"):
        raise NoRange(end)
    return one, end + 1


def meet_at(words, at, opened):
    """Return the range of the terms with `and` between them from a place on, and the place behind."""
    one, at = term_at(words, at, opened)
    found = [one]
    while is_word(words, at, "and"):
        one, at = term_at(words, at + 1, opened)
        found.append(one)
    return meet_of(found), at


def text_at(words, at, opened):
    """Return the range of the meets with `or` between them from a place on, and the place behind."""
    one, at = meet_at(words, at, opened)
    found = [one]
    while is_word(words, at, "or"):
        one, at = meet_at(words, at + 1, opened)
        found.append(one)
    return union_of(found), at


def range_of_words(words):
    """Return the RANGE that words tell; raise NoRange(place) with the place of the bad word."""
    one, at = text_at(words, 0, 0)
    if at < len(words):
        raise NoRange(at)
    return one


def read_range(text):
    """Return the RANGE that a RANGE TEXT tells; raise NoRange(place) if it is none."""
    if not isinstance(text, str):
        raise Wrong(0)
    return range_of_words(words_of(text, BRACKETS))


def show_stretch(low, high):
    """Return the shortest words that tell one stretch."""
    if high == after(low):
        return show_version(low)
    if low == FIRST_VERSION:
        return f"below {show_version(high)}"
    if high is None:
        return f"from {show_version(low)}"
    return f"from {show_version(low)} and below {show_version(high)}"


def show_range(one):
    """Return a RANGE TEXT that is read as this range."""
    if one == ():
        return "none"
    if one == all_of():
        return "all"
    return " or ".join([show_stretch(low, high) for low, high in one])
