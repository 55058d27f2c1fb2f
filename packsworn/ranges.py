"""Ranges: sets of versions, told by the stretches that they are made of."""

from packsworn.versions import FIRST_VERSION, after, is_version


def is_stretch(thing):
    """Tell whether a value is a tuple (low, high) of versions, low below high, or high None."""
    if not isinstance(thing, tuple) or len(thing) != 2:
        return False
    low, high = thing
    return is_version(low) and (high is None or is_version(high) and low < high)


def is_range(thing):
    """Tell whether a value is a RANGE."""
    if not isinstance(thing, tuple) or not all([is_stretch(part) for part in thing]):
        return False
    for at in range(len(thing) - 1):
        high, low = thing[at][1], thing[at + 1][0]
        if high is None or not high < low:
            return False
    return True


def none_of():
    """Return the empty RANGE."""
    return ()


def all_of():
    """Return the RANGE of all versions."""
    return ((FIRST_VERSION, None),)


def just(version):
    """Return the RANGE of one version."""
    return ((version, after(version)),)


def stretch(low, high):
    """Return the RANGE of the versions from low on and below high, which may be None."""
    if high is not None and high <= low:
        return ()
    return ((low, high),)


def range_of(versions):
    """Return the RANGE with just these versions."""
    return union_of([just(version) for version in versions])


def is_in(version, one):
    """Tell whether a version is IN a range."""
    return any([low <= version and (high is None or version < high) for low, high in one])


def later_end(one, other):
    """Return the end of two that comes later; None is no end at all."""
    if one is None or other is None:
        return None
    return max(one, other)


def union_of(many):
    """Return the RANGE of the versions that are in one of many ranges."""
    found = []
    for low, high in sorted([part for one in many for part in one], key=lambda pair: pair[0]):
        if found and (found[-1][1] is None or low <= found[-1][1]):
            found[-1] = (found[-1][0], later_end(found[-1][1], high))
        else:
            found.append((low, high))
    return tuple(found)


def meet_of(many):
    """Return the RANGE of the versions that are in each one of many ranges."""
    return rest(union_of([rest(one) for one in many]))


def union(one, other):
    """Return the RANGE of the versions that are in one of two ranges."""
    return union_of([one, other])


def meet(one, other):
    """Return the RANGE of the versions that are in both of two ranges."""
    return meet_of([one, other])


def without(one, other):
    """Return the RANGE of the versions that are in one range, but not in the other one."""
    return meet(one, rest(other))


def rest(one):
    """Return the RANGE of all versions that are not in a range."""
    found = []
    begin = FIRST_VERSION
    for low, high in one:
        if begin < low:
            found.append((begin, low))
        begin = high
    if begin is not None:
        found.append((begin, None))
    return tuple(found)


def is_within(one, other):
    """Tell whether each version in one range is in the other one."""
    return without(one, other) == ()


def kept(versions, one):
    """Return the LOT of those versions that are in a range."""
    return tuple(sorted({version for version in versions if is_in(version, one)}))


def least_in(one):
    """Return the least version in a range, None if it is empty."""
    return one[0][0] if one else None


def parting_version(one, other):
    """Return the least version that is in just one of two ranges, None if they are the same."""
    return least_in(union(without(one, other), without(other, one)))
