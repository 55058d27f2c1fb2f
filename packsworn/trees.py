"""Trees: what a plan puts there, what stands there, and the steps from one to another."""

from packsworn.registry import files_of, pack_of

TREE = "tree/"


def tree_of(registry, plan):
    """Return the TREE of all files of the packs of a plan."""
    found = {}
    for name in sorted(plan):
        found.update(files_of(pack_of(registry, name, plan[name][0])))
    return {path: found[path] for path in sorted(found)}


def tree_on(files):
    """Return the TREE that stands on a disk."""
    return {path.removeprefix(TREE): files[path] for path in sorted(files) if path.startswith(TREE)}


def steps_between(old, new):
    """Return the list of the STEPS that lead from one TREE to another."""
    drops = [("drop", path) for path in reversed(sorted(old)) if path not in new]
    return drops + [("put", path, new[path]) for path in sorted(new) if path not in old or old[path] != new[path]]
