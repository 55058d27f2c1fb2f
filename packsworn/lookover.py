"""Looking over generations: what they lack of their locks' packs, and how they are repaired."""

from packsworn.disk import after
from packsworn.generations import generations, manifest_at, manifest_deeds, shelved_entries
from packsworn.installer import mend_deeds
from packsworn.locks import read_lock
from packsworn.registry import pack_of
from packsworn.store import keeping, kept
from packsworn.trees import tree_of


def lock_at(files, manifest):
    """Return the LOCK that stands on the lock's shelf of a MANIFEST, None if there is none."""
    if manifest is None or manifest[1] is None or manifest[1] not in files:
        return None
    return read_lock(files[manifest[1]])


def due_tree(files, registry, number):
    """Return the DUE TREE of a GENERATION, None if it is not KNOWN to a registry."""
    lock = lock_at(files, manifest_at(files, number))
    if lock is None or not all([pack_of(registry, name, lock[name][0]) is not None for name in lock]):
        return None
    return tree_of(registry, lock)


def finding_word(files, shelves, due, path):
    """Return the word for what is amiss at a path, None if nothing is; shelves are those of a MANIFEST's paths."""
    if path not in due:
        return "more"
    if path not in shelves or shelves[path] not in files:
        return "lacks"
    return None if files[shelves[path]] == due[path] else "other"


def findings_at(files, registry, number):
    """Return the list of the FINDINGS of a GENERATION."""
    due = due_tree(files, registry, number)
    if due is None:
        return [(number, "unknown", "")]
    shelves = dict(manifest_at(files, number)[0])
    words = {path: finding_word(files, shelves, due, path) for path in list(due) + list(shelves)}
    return sorted([(number, words[path], path) for path in words if words[path] is not None])


def look_over(files, registry):
    """Return the ascending list of the FINDINGS of all GENERATIONS."""
    return [finding for number in generations(files) for finding in findings_at(files, registry, number)]


def repair_deeds(files, registry):
    """Return the list of the DEEDS by which each KNOWN GENERATION with a finding gets just its DUE TREE."""
    deeds = mend_deeds(files)
    calm = after(files, deeds)
    for number in generations(calm):
        due = due_tree(calm, registry, number)
        if due is not None and findings_at(calm, registry, number):
            here = after(files, deeds)
            keep = keeping(here, list(due.values()))
            shelves = kept(after(here, keep))
            manifest = (shelved_entries(due, shelves), manifest_at(calm, number)[1])
            deeds = deeds + keep + manifest_deeds(manifest, number)
    return deeds
