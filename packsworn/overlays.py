"""Registries laid over one another, and what changed between two."""

from packsworn.registry import restored, with_pack, withdrew, without_pack


def packs_by_mark(registry):
    """Return the dict from (name, version) to the packs of a registry."""
    return {pack[:2]: pack for pack in registry[0]}


def laid_over(below, above):
    """Return the registry that has above, and of below what above has not."""
    covered = packs_by_mark(above)
    packs = list(above[0]) + [pack for pack in below[0] if pack[:2] not in covered]
    withdrawn = list(above[1]) + [mark for mark in below[1] if mark not in covered]
    return tuple(sorted(packs, key=lambda row: (row[0], row[1]))), tuple(sorted(withdrawn))


def only_names(registry, names):
    """Return the registry with just the packs of these names."""
    packs, withdrawn = registry
    packs = tuple([pack for pack in packs if pack[0] in names])
    return packs, tuple([mark for mark in withdrawn if mark[0] in names])


def changed_by(registry, change):
    """Return the registry behind a CHANGE; raise the first error that comes on the way."""
    dropped, put, withdrawn, given_back = change
    for name, version in dropped:
        registry = without_pack(registry, name, version)
    for pack in put:
        registry = with_pack(registry, pack)
    for name, version in withdrawn:
        registry = withdrew(registry, name, version)
    for name, version in given_back:
        registry = restored(registry, name, version)
    return registry


def change_between(one, other):
    """Return the CHANGE by which changed_by makes other of one."""
    old, new = packs_by_mark(one), packs_by_mark(other)
    dropped = tuple([mark for mark in sorted(old) if new.get(mark) != old[mark]])
    put = tuple([new[mark] for mark in sorted(new) if old.get(mark) != new[mark]])
    was_put = {pack[:2]: True for pack in put}
    withdrawn = tuple([mark for mark in other[1] if mark not in one[1] or mark in was_put])
    given_back = tuple([mark for mark in one[1] if mark not in dropped and mark not in other[1]])
    return dropped, put, withdrawn, given_back
