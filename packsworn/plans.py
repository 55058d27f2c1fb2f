"""Plans: what a choice breaks, and the plan that has its versions."""

from packsworn.demands import conditions_of, lines_of, need_of, supports
from packsworn.forms import is_lock
from packsworn.ranges import is_in
from packsworn.reach import condition_holds, net_of, ranks_by
from packsworn.registry import feature_of, pack_of, paths_clash


def grounds_of(case):
    """Return what is asked of a case for each of its choices anew."""
    return {
        "net": net_of(supports(case)),
        "lines": [(line, conditions_of(line), need_of(case, line)) for line in lines_of(case)],
        "packs": {pack[:2]: pack for pack in case[0][0]},
        "withdrawn": {mark: True for mark in case[0][1]},
        "lock": case[2],
    }


def things_reached(grounds, choice):
    """Return the dict of the things that a choice reaches, in ascending order."""
    return ranks_by(grounds["net"], choice)


def chosen_packs(grounds, choice):
    """Return the list of the packs chosen, ascending by their names."""
    return [grounds["packs"][(name, choice[name])] for name in sorted(choice)]


def lacking(_, choice, reached):
    """Return the break that a name is reached and not chosen."""
    for thing in reached:
        if len(thing) == 1 and thing[0] not in choice:
            return ("lacks", thing[0])
    return None


def idle(_, choice, reached):
    """Return the break that a name is chosen and not reached."""
    for name in sorted(choice):
        if (name,) not in reached:
            return ("idle", name)
    return None


def out_of_range(grounds, choice, reached):
    """Return the break that the version chosen is not in the range of a need."""
    for line, conditions, need in grounds["lines"]:
        held = all([condition_holds(reached, choice, condition) for condition in conditions])
        if held and not is_in(choice[need[0]], need[1]):
            return ("range", line)
    return None


def unknown(grounds, choice, reached):
    """Return the break that the pack chosen has not a feature reached."""
    for thing in reached:
        if len(thing) == 2:
            name, feature = thing
            if feature_of(grounds["packs"][(name, choice[name])], feature) is None:
                return ("known", name, choice[name], feature)
    return None


def is_met(choice, note):
    """Tell whether the version chosen for the name of a note is in its range."""
    return note[0] in choice and is_in(choice[note[0]], note[1])


def peerless(grounds, choice, _):
    """Return the break that a peer of a pack chosen is not met."""
    for pack in chosen_packs(grounds, choice):
        for index, note in enumerate(pack[3]):
            if not is_met(choice, note):
                return ("peer", pack[0], pack[1], index)
    return None


def barred(grounds, choice, _):
    """Return the break that a bar of a pack chosen is met."""
    for pack in chosen_packs(grounds, choice):
        for index, note in enumerate(pack[4]):
            if is_met(choice, note):
                return ("bar", pack[0], pack[1], index)
    return None


def clashing(grounds, choice, _):
    """Return the break that two packs chosen have paths that cannot stand beside each other."""
    packs = chosen_packs(grounds, choice)
    for at, pack in enumerate(packs):
        for other in packs[at + 1:]:
            if paths_clash(pack, other):
                return ("clash", pack[0], pack[1], other[0], other[1])
    return None


def held_version(lock, name):
    """Return the version that a lock has of a name, None if it has none."""
    return lock[name][0] if name in lock else None


def lock_copy(lock):
    """Return a new dict with what a lock has, its names ascending."""
    return {name: lock[name] for name in sorted(lock)}


def taken_back(grounds, choice, _):
    """Return the break that a pack chosen is withdrawn and not the one of the lock."""
    for name in sorted(choice):
        version = choice[name]
        if (name, version) in grounds["withdrawn"] and held_version(grounds["lock"], name) != version:
            return ("withdrawn", name, version)
    return None


BREAKS = (lacking, idle, out_of_range, unknown, peerless, barred, clashing, taken_back)


def first_break(grounds, choice, reached):
    """Return the first of the breaks of a choice, None if there is none."""
    # Each break is only asked for when those ahead of it are not so.
    for look in BREAKS:
        found = look(grounds, choice, reached)
        if found is not None:
            return found
    return None


def plan_on(grounds, choice):
    """Return the PLAN with these versions, None if there is none."""
    reached = things_reached(grounds, choice)
    if first_break(grounds, choice, reached) is not None:
        return None
    features = {name: [] for name in sorted(choice)}
    for thing in reached:
        if len(thing) == 2:
            features[thing[0]].append(thing[1])
    return {name: (choice[name], tuple(features[name])) for name in features}


def plan_of(case, choice):
    """Return the PLAN with these versions, None if there is none."""
    return plan_on(grounds_of(case), choice)


def choice_of(plan):
    """Return the dict from the names of a plan to their versions."""
    return {name: plan[name][0] for name in sorted(plan)}


def is_plan(case, thing):
    """Tell whether any value is a PLAN of a case."""
    if not is_lock(thing):
        return False
    choice = choice_of(thing)
    known = [pack_of(case[0], name, choice[name]) is not None for name in choice]
    return all(known) and plan_of(case, choice) == thing


def broken(case, choice):
    """Return the first demand that a choice breaks, None if it makes a plan."""
    grounds = grounds_of(case)
    return first_break(grounds, choice, things_reached(grounds, choice))
