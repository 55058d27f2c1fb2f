"""Upgrades: cases with other locks, modes and packs, and what can be had by freeing names."""

from packsworn.cores import has_plan, lies_in, lots_of, with_wish
from packsworn.errors import TooMany
from packsworn.plans import lock_copy
from packsworn.ranges import just
from packsworn.registry import versions_of
from packsworn.solver import Search, answer

MOST_LOCKED = 8


def with_mode(case, mode):
    """Return the case that is the same but for its mode."""
    registry, wish, lock, _ = case
    return registry, wish, lock_copy(lock), mode


def with_lock(case, lock):
    """Return the case that is the same but for its lock."""
    registry, wish, _, mode = case
    return registry, wish, lock_copy(lock), mode


def freed(case, names):
    """Return the case with the mode "steady" and with some names out of its lock."""
    lock = case[2]
    return with_mode(with_lock(case, {name: lock[name] for name in lock if name not in names}), "steady")


def without_marks(case, marks):
    """Return the case without the packs of some names and versions."""
    (packs, withdrawn), wish, lock, mode = case
    packs = tuple([pack for pack in packs if pack[:2] not in marks])
    return (packs, tuple([mark for mark in withdrawn if mark not in marks])), wish, lock_copy(lock), mode


def locked_packs(case, names):
    """Return the list of the tuples (name, version) of the packs of those names that the lock has."""
    return [pack[:2] for pack in case[0][0] if pack[0] in names and pack[0] in case[2]]


def held_at(case, names):
    """Return the case without the packs of some names that have other versions than the lock's."""
    lock = case[2]
    return without_marks(case, {mark: True for mark in locked_packs(case, names) if mark[1] != lock[mark[0]][0]})


def none_lower(case, names):
    """Return the case without the packs of some names that have lesser versions than the lock's."""
    lock = case[2]
    return without_marks(case, {mark: True for mark in locked_packs(case, names) if mark[1] < lock[mark[0]][0]})


def pinned(case, name, version):
    """Return the case that wishes a version of a name, too."""
    return with_wish(case, case[1] + ((name, just(version), (), True),))


def upgraded(case, names):
    """Return the answer of the case in which some names are freed."""
    return answer(freed(case, names))


def versions_to_have(case, name):
    """Return the LOT of the versions of a name with which there is a plan."""
    return tuple([version for version in versions_of(case[0], name) if has_plan(pinned(case, name, version))])


def limits_of_lock(case, names):
    """Return the dict from the variables of some names of the lock to their options: absent, or the lock's version."""
    versions = {name: versions_of(case[0], name) for name in names}
    return {(name,): (None,) + tuple([version for version in versions[name] if version == case[2][name][0]])
            for name in versions}


def least_to_free(case, name, version):
    """Return the ascending list of the least LOTS of names of the lock to be freed for a version of a name."""
    locked = sorted(case[2])
    if len(locked) > MOST_LOCKED:
        raise TooMany(MOST_LOCKED)
    # One search serves all lots: what it has learned from the case holds under any limits.
    search = Search(pinned(case, name, version))
    known = [one for one in locked if (one,) in search.grounds["options"]]
    found = []
    for lot in lots_of(len(locked)):
        names = tuple([locked[index] for index in lot])
        if any([lies_in(other, names) for other in found]):
            continue
        limits = limits_of_lock(case, [one for one in known if one not in names])
        if search.run(limits) is None:
            found.append(names)
    return sorted(found)
