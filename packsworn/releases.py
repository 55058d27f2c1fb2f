"""Releases: what binds the version of a name of a plan, and packs that can take its pack's place."""

from packsworn.demands import need_of
from packsworn.plans import is_plan, lock_copy
from packsworn.ranges import meet_of, rest
from packsworn.registry import pack_of, with_pack
from packsworn.whys import needers


def released_as(pack, version):
    """Return the PACK that is the same but for its version."""
    return pack[:1] + (version,) + pack[2:]


def slim(pack, kept):
    """Return the pack that has no features but those of a lot."""
    name, version, needs, peers, bars, features, defaults, files = pack
    told = [(feature, tuple([other for other in also if other in kept]), extras)
            for feature, also, extras in features if feature in kept]
    return (name, version, needs, peers, bars, tuple(told), tuple([one for one in defaults if one in kept]), files)


def with_release(case, pack):
    """Return the case with a pack more; raise Doubled(name, version) if it stands there."""
    registry, wish, lock, mode = case
    return with_pack(registry, pack), wish, lock_copy(lock), mode


def chosen_pack(case, plan, name):
    """Return the pack that a plan has chosen of a name."""
    return pack_of(case[0], name, plan[name][0])


def limits_of_notes(pack, name):
    """Return the list of the tuples (source, range) by which the peers and bars of a pack bind a name."""
    mark = pack[:2]
    found = [(("peer",) + mark + (index,), one) for index, (other, one) in enumerate(pack[3]) if other == name]
    bars = [(("bar",) + mark + (index,), rest(one)) for index, (other, one) in enumerate(pack[4]) if other == name]
    return found + bars


def limits_of(case, plan, name):
    """Return the ascending list of the tuples (source, range) of what binds the version of a name of a plan."""
    found = [(line, need_of(case, line)[1]) for line in needers(case, plan, name)]
    for other in plan:
        found.extend(limits_of_notes(chosen_pack(case, plan, other), name))
    return sorted(found, key=lambda limit: limit[0])


def room_for(case, plan, name):
    """Return the RANGE of the versions that nothing in a plan keeps a name from."""
    return meet_of([one for _, one in limits_of(case, plan, name)])


def drops_in(case, plan, name, version):
    """Tell whether a plan stays one with the same pack, released as another version, in the place of a name's one."""
    other = with_release(case, released_as(chosen_pack(case, plan, name), version))
    return is_plan(other, {**plan, name: (version, plan[name][1])})


def slim_release(case, plan, name, version):
    """Return the pack of a name of a plan, released as a version with no features but those of the plan."""
    return released_as(slim(chosen_pack(case, plan, name), plan[name][1]), version)
