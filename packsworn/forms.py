"""Forms: whether any value is what a name of the definitions says."""

from packsworn.ranges import is_range
from packsworn.versions import is_name, is_version

LONGEST_CONTENT = 200
MODES = ("newest", "oldest", "steady")


def is_row(thing, many):
    """Tell whether a value is a tuple of so many parts."""
    return isinstance(thing, tuple) and len(thing) == many


def is_ascending(row):
    """Tell whether each part of a row that can be compared is greater than the one ahead of it."""
    return all([row[at] < row[at + 1] for at in range(len(row) - 1)])


def is_all_of(thing, test):
    """Tell whether a value is a tuple each part of which passes a test."""
    return isinstance(thing, tuple) and all([test(part) for part in thing])


def is_lot_of_names(thing):
    """Tell whether a value is a LOT of NAMES."""
    return is_all_of(thing, is_name) and is_ascending(thing)


def is_path(thing):
    """Tell whether a value is a PATH."""
    return isinstance(thing, str) and all([is_name(word) for word in thing.split("/")])


def is_content(thing):
    """Tell whether a value is the content of a file."""
    if not isinstance(thing, str) or len(thing) > LONGEST_CONTENT:
        return False
    return all([" " <= sign <= "~" or sign == "\n" for sign in thing])


def is_need(thing):
    """Tell whether a value is a NEED."""
    if not is_row(thing, 4):
        return False
    name, one, features, bare = thing
    return is_name(name) and is_range(one) and is_lot_of_names(features) and isinstance(bare, bool)


def is_note(thing):
    """Tell whether a value is a NOTE."""
    return is_row(thing, 2) and is_name(thing[0]) and is_range(thing[1])


def is_feature(thing):
    """Tell whether a value has the form of a pack's feature."""
    if not is_row(thing, 3):
        return False
    return is_name(thing[0]) and is_lot_of_names(thing[1]) and is_all_of(thing[2], is_need)


def are_features(features, defaults):
    """Tell whether two values are the features of a pack and its defaults."""
    if not is_all_of(features, is_feature) or not is_lot_of_names(defaults):
        return False
    told = {feature[0]: True for feature in features}
    called = [name for feature in features for name in feature[1]]
    if not is_ascending([feature[0] for feature in features]):
        return False
    return all([name in told for name in called]) and all([name in told for name in defaults])


def paths_touch(one, other):
    """Tell whether of two paths one is the other one, or its beginning followed by `/`."""
    return one == other or one.startswith(other + "/") or other.startswith(one + "/")


def are_apart(paths):
    """Tell whether no two of some paths touch."""
    # With the least sign for `/`, what begins with a path stands right behind it.
    row = sorted([path.replace("/", " ") for path in paths])
    return not any([row[at] == row[at + 1] or row[at + 1].startswith(row[at] + " ") for at in range(len(row) - 1)])


def is_file(thing):
    """Tell whether a value is a tuple (path, content)."""
    return is_row(thing, 2) and is_path(thing[0]) and is_content(thing[1])


def are_files(thing):
    """Tell whether a value is the files of a pack."""
    if not is_all_of(thing, is_file):
        return False
    paths = [path for path, _ in thing]
    return is_ascending(paths) and are_apart(paths)


def is_pack(thing):
    """Tell whether a value is a PACK."""
    if not is_row(thing, 8):
        return False
    name, version, needs, peers, bars, features, defaults, files = thing
    if not is_name(name) or not is_version(version) or not is_all_of(needs, is_need):
        return False
    if not is_all_of(peers, is_note) or not is_all_of(bars, is_note):
        return False
    return are_features(features, defaults) and are_files(files)


def is_mark(thing):
    """Tell whether a value is a tuple (name, version)."""
    return is_row(thing, 2) and is_name(thing[0]) and is_version(thing[1])


def is_registry(thing):
    """Tell whether a value is a REGISTRY."""
    if not is_row(thing, 2):
        return False
    packs, withdrawn = thing
    if not is_all_of(packs, is_pack) or not is_all_of(withdrawn, is_mark):
        return False
    marks = [pack[:2] for pack in packs]
    told = {mark: True for mark in marks}
    return is_ascending(marks) and is_ascending(withdrawn) and all([mark in told for mark in withdrawn])


def is_wish(thing):
    """Tell whether a value is a WISH."""
    return is_all_of(thing, is_need)


def is_lock(thing):
    """Tell whether a value has the form of a LOCK, which is that of a PLAN."""
    if not isinstance(thing, dict) or not all([is_name(name) for name in thing]):
        return False
    held = list(thing.values())
    return all([is_row(one, 2) and is_version(one[0]) and is_lot_of_names(one[1]) for one in held])


def is_case(thing):
    """Tell whether a value is a CASE."""
    if not is_row(thing, 4):
        return False
    registry, wish, lock, mode = thing
    if not isinstance(mode, str) or mode not in MODES:
        return False
    return is_registry(registry) and is_wish(wish) and is_lock(lock)
