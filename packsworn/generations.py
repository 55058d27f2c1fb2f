"""Generations: manifests of trees by their shelves, recorded, and gone back to."""

from packsworn.disk import after
from packsworn.errors import NoGeneration
from packsworn.forms import is_ascending, is_path
from packsworn.installer import LOCK, logged_deeds, mend_deeds
from packsworn.store import is_shelf, keeping, kept, number_behind, numbers_behind
from packsworn.trees import steps_between, tree_on

GENERATION = "gen/g"
NEW_GENERATION = "gen/new"
NO_SHELF = "-"


def manifest_text(manifest):
    """Return the text of a MANIFEST."""
    entries, lock = manifest
    lines = [f"entries {len(entries)}"] + [" ".join(entry) for entry in entries]
    return "\n".join(lines + [f"lock {NO_SHELF if lock is None else lock}"])


def is_entry(words):
    """Tell whether words tell an entry of a MANIFEST."""
    return len(words) == 2 and is_path(words[0]) and is_shelf(words[1])


def read_manifest(text):
    """Return the MANIFEST that a text shows, None if it shows none."""
    lines = text.split("\n")
    rows = [tuple(line.split(" ")) for line in lines[1:]]
    if not rows or lines[0] != f"entries {len(rows) - 1}":
        return None
    entries, last = tuple(rows[:-1]), rows[-1]
    if not all([is_entry(entry) for entry in entries]) or not is_ascending([entry[0] for entry in entries]):
        return None
    if len(last) != 2 or last[0] != "lock" or last[1] != NO_SHELF and not is_shelf(last[1]):
        return None
    return entries, None if last[1] == NO_SHELF else last[1]


def shelves_named(manifest):
    """Return the list of the shelves that a MANIFEST names."""
    entries, lock = manifest
    return [shelf for _, shelf in entries] + ([] if lock is None else [lock])


def generation_of(number):
    """Return the path of the GENERATION with a number."""
    return f"{GENERATION}{number}"


def generations(files):
    """Return the ascending list of all GENERATIONS."""
    return numbers_behind(GENERATION, files)


def manifest_at(files, number):
    """Return the MANIFEST of a GENERATION, None if there is none, or its text shows none."""
    path = generation_of(number)
    # For a number below 0 such a path may stand there, but it is no GENERATION.
    if path not in files or number_behind(GENERATION, path) is None:
        return None
    return read_manifest(files[path])


def is_sound(files, number):
    """Tell whether there is a SOUND GENERATION with a number."""
    manifest = manifest_at(files, number)
    return manifest is not None and all([shelf in files for shelf in shelves_named(manifest)])


def sound_ones(files):
    """Return the ascending list of the SOUND GENERATIONS."""
    return [number for number in generations(files) if is_sound(files, number)]


def tree_at(files, number):
    """Return the tuple of the TREE and the lock's text, or None, of a SOUND GENERATION; None of any other number."""
    if not is_sound(files, number):
        return None
    entries, lock = manifest_at(files, number)
    return {path: files[shelf] for path, shelf in entries}, None if lock is None else files[lock]


def next_generation(files):
    """Return the number that is one greater than those of all GENERATIONS."""
    return max(generations(files), default=-1) + 1


def manifest_deeds(manifest, number):
    """Return the list of the DEEDS by which a MANIFEST becomes that of a GENERATION."""
    return [("put", NEW_GENERATION, manifest_text(manifest)), ("move", NEW_GENERATION, generation_of(number))]


def shelved_entries(tree, shelves):
    """Return the entries of a TREE whose contents stand on shelves."""
    return tuple([(path, shelves[tree[path]]) for path in sorted(tree)])


def record_deeds(files):
    """Return the list of the DEEDS by which what stands behind a mending becomes a new GENERATION."""
    mend = mend_deeds(files)
    calm = after(files, mend)
    tree, text = tree_on(calm), calm.get(LOCK)
    keep = keeping(calm, list(tree.values()) + ([] if text is None else [text]))
    shelves = kept(after(calm, keep))
    manifest = (shelved_entries(tree, shelves), None if text is None else shelves[text])
    return mend + keep + manifest_deeds(manifest, next_generation(calm))


def steps_back(tree, goal, shelves):
    """Return the steps of a log from one TREE to another, whose paths have these shelves."""
    steps = steps_between(tree, goal)
    return tuple([step if step[0] == "drop" else ("put", step[1], shelves[step[1]]) for step in steps])


def rollback_deeds(files, number):
    """Return the list of the DEEDS that lead back to a GENERATION; raise NoGeneration(number) if they cannot."""
    found = tree_at(files, number)
    if found is None or found[1] is None:
        raise NoGeneration(number)
    entries, lock = manifest_at(files, number)
    mend = mend_deeds(files)
    calm = after(files, mend)
    return mend + logged_deeds(calm, (steps_back(tree_on(calm), found[0], dict(entries)), lock))
