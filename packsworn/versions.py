"""Integers, names and versions: what they are, and how versions are shown and read."""

from packsworn.errors import NoVersion, Wrong

GREATEST = 999999
MOST_FIGURES = 6
FIRST_VERSION = (0, 0, 0)
FIGURES = "0123456789"
LETTERS = "abcdefghijklmnopqrstuvwxyz"
NAME_SIGNS = "abcdefghijklmnopqrstuvwxyz0123456789-"
LONGEST_NAME = 20


def is_integer(thing):
    """Tell whether a value is an integer, which True and False are not."""
    return isinstance(thing, int) and not isinstance(thing, bool)


def is_version(thing):
    """Tell whether a value is a VERSION."""
    if not isinstance(thing, tuple) or len(thing) != 3:
        return False
    return all([is_integer(number) and 0 <= number <= GREATEST for number in thing])


def is_name(thing):
    """Tell whether a value is a NAME."""
    if not isinstance(thing, str) or not 1 <= len(thing) <= LONGEST_NAME:
        return False
    return thing[0] in LETTERS and all([sign in NAME_SIGNS for sign in thing])


def show_version(version):
    """Return the three numbers of a version with dots between them."""
    return ".".join([str(number) for number in version])


def is_shown_number(word):
    """Tell whether a word is one of a version's numbers, just as it is shown."""
    # The length comes first: a word may have thousands of figures.
    if not 1 <= len(word) <= MOST_FIGURES:
        return False
    return all([sign in FIGURES for sign in word]) and (word == "0" or word[0] != "0")


def version_told(text):
    """Return the VERSION that is shown so, None if there is none."""
    words = text.split(".")
    if len(words) != 3 or not all([is_shown_number(word) for word in words]):
        return None
    return (int(words[0]), int(words[1]), int(words[2]))


def read_version(text):
    """Return the VERSION that is shown so; raise NoVersion() if there is none."""
    if not isinstance(text, str):
        raise Wrong(0)
    version = version_told(text)
    if version is None:
        raise NoVersion()
    return version


def raised(version, place):
    """Return the least version with a greater number at a place, and the same ones ahead of it."""
    if version[place] == GREATEST:
        return None
    return version[:place] + (version[place] + 1,) + (0,) * (2 - place)


def after(version):
    """Return the least version that is greater, None if there is none."""
    for place in (2, 1, 0):
        found = raised(version, place)
        if found is not None:
            return found
    return None
