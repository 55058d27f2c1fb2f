"""Locks: shown and read, and what changed between two."""

from packsworn.errors import NotThere, Wrong
from packsworn.forms import is_lot_of_names
from packsworn.plans import lock_copy
from packsworn.texts import lock_line
from packsworn.versions import is_name, version_told


def show_lock(lock):
    """Return the lines of a LOCK."""
    return "\n".join([lock_line(name, lock[name]) for name in sorted(lock)])


def held_told(words):
    """Return the name, the version and the features that the words of a line may tell, None if they tell none."""
    if len(words) < 3 or words[0] != "lock" or not is_name(words[1]):
        return None
    version = version_told(words[2])
    features = tuple(words[5:])
    if version is None or words[3:5] not in ([], [";", "with"]) or not is_lot_of_names(features):
        return None
    return words[1], version, features


def read_lock(text):
    """Return the LOCK of which show_lock returns just this text, None if there is none."""
    if not isinstance(text, str):
        raise Wrong(0)
    lock = {}
    lines = text.split("\n") if text else []
    for line in lines:
        told = held_told(line.split(" "))
        if told is None:
            return None
        name, version, features = told
        lock[name] = (version, features)
    # Names that come twice or are not ascending are shown otherwise, and so are features of none.
    return lock if show_lock(lock) == text else None


def changes_between(one, other):
    """Return the list of the tuples (name, before, after) for each name of which two LOCKS have not the same."""
    names = sorted(set(list(one) + list(other)))
    return [(name, one.get(name), other.get(name)) for name in names if one.get(name) != other.get(name)]


def changed_lock(lock, changes):
    """Return the LOCK that has after in the place of before; raise NotThere(name) if it has not before."""
    found = lock_copy(lock)
    for name, before, after in changes:
        if lock.get(name) != before:
            raise NotThere(name)
        if after is not None:
            found[name] = after
        elif name in found:
            del found[name]
    return lock_copy(found)


def change_word(before, after):
    """Return the word for what became of a name."""
    if before is None:
        return "added"
    if after is None:
        return "dropped"
    if before[0] == after[0]:
        return "other"
    return "raised" if before[0] < after[0] else "lowered"
