"""Helps: what would have to be otherwise for a case to have a plan."""

from packsworn.cores import has_plan, lies_in, lots_of, with_wish
from packsworn.errors import TooMany
from packsworn.plans import lock_copy
from packsworn.ranges import all_of, just
from packsworn.registry import restored, versions_of

MOST_WITHDRAWN = 6


def with_range(wish, index, one):
    """Return the wish in which a need has another range."""
    name, _, features, bare = wish[index]
    return wish[:index] + ((name, one, features, bare),) + wish[index + 1:]


def had_versions(case, index):
    """Return the list of the versions for which there is a plan if a need of the wish is for just this version."""
    wish = case[1]
    versions = versions_of(case[0], wish[index][0])
    return [version for version in versions if has_plan(with_wish(case, with_range(wish, index, just(version))))]


def widened(wish, lot):
    """Return the wish in which the needs with the indexes of a lot are for all versions."""
    for index in lot:
        wish = with_range(wish, index, all_of())
    return wish


def nearest_wishes(case):
    """Return the wish by which there is a plan, as few ranges as can be being those of all versions, or None."""
    for lot in lots_of(len(case[1])):
        wish = widened(case[1], lot)
        if has_plan(with_wish(case, wish)):
            return wish
    return None


def with_restored(case, marks):
    """Return the case in which some packs are not withdrawn."""
    registry, wish, lock, mode = case
    for name, version in marks:
        registry = restored(registry, name, version)
    return registry, wish, lock_copy(lock), mode


def lifted_withdrawals(case):
    """Return the ascending list of the least LOTS of withdrawn packs behind whose restoring there is a plan."""
    withdrawn = case[0][1]
    if len(withdrawn) > MOST_WITHDRAWN:
        raise TooMany(MOST_WITHDRAWN)
    found = []
    for lot in lots_of(len(withdrawn)):
        marks = tuple([withdrawn[index] for index in lot])
        if not any([lies_in(other, marks) for other in found]) and has_plan(with_restored(case, marks)):
            found.append(marks)
    return sorted(found)
