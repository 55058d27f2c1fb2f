"""The definitions of [2], told once more: slowly, and without any call of the package."""

import functools
import itertools


def remembered(call):
    """Return a call that goes through a case only once; it is for what registry and wish alone tell."""
    known = {}

    def told(case):
        # What is kept here is not given back, so that no other registry or wish comes to stand at its place.
        key = (id(case[0]), id(case[1]))
        if key not in known:
            if len(known) > 500:
                known.clear()
            known[key] = (case[0], case[1], call(case))
        return known[key][2]
    return told


def is_plainly_in(version, one):
    return any(low <= version and (high is None or version < high) for low, high in one)


@remembered
def needs_with_conditions(case):
    """Return a list of (line, conditions, need) in the order of the lines."""
    found = [(("wish", at), frozenset(), need) for at, need in enumerate(case[1])]
    for name, version, needs, _, _, features, _, _ in case[0][0]:
        here = ((name,), version)
        found += [(("need", name, version, at), frozenset([here]), need) for at, need in enumerate(needs)]
        for feature, _, extras in features:
            both = frozenset([here, ((name, feature), True)])
            found += [(("extra", name, version, feature, at), both, need) for at, need in enumerate(extras)]
    return found


@remembered
def names(case):
    found = {need[0] for _, _, need in needs_with_conditions(case)}
    for pack in case[0][0]:
        found |= {pack[0]} | {name for name, _ in pack[3] + pack[4]}
    return sorted(found)


@remembered
def things(case):
    found = {(name,) for name in names(case)}
    found |= {(need[0], feature) for _, _, need in needs_with_conditions(case) for feature in need[2]}
    found |= {(pack[0], told[0]) for pack in case[0][0] for told in pack[5]}
    return sorted(found)


@remembered
def supports(case):
    """Return the set of the supports, conditions being frozensets."""
    found = set()
    for _, conditions, (name, _, features, bare) in needs_with_conditions(case):
        found.add((conditions, (name,)))
        found |= {(conditions, (name, feature)) for feature in features}
        for pack in case[0][0]:
            if not bare and pack[0] == name:
                more = conditions | {((name,), pack[1])}
                found |= {(more, (name, feature)) for feature in pack[6]}
    for pack in case[0][0]:
        for feature, also, _ in pack[5]:
            both = frozenset([((pack[0],), pack[1]), ((pack[0], feature), True)])
            found |= {(both, (pack[0], other)) for other in also}
    return found


def holds(reached, choice, condition):
    thing, value = condition
    return thing in reached and (value is True or choice.get(thing[0]) == value)


def ranks(case, choice):
    """Return the dict from the things reached to their least ranks, round by round."""
    found, rows, rank = {}, supports(case), 0
    while True:
        new = {thing for conditions, thing in rows
               if thing not in found and all(holds(found, choice, one) for one in conditions)}
        if not new:
            return found
        found.update({thing: rank for thing in new})
        rank += 1


def clash(one, other):
    return any(path == its or its.startswith(path + "/") or path.startswith(its + "/")
               for path, _ in one[7] for its, _ in other[7])


def plan(case, choice):
    """Return the plan with these versions, None if there is none."""
    (packs, withdrawn), _, lock, _ = case
    reached = ranks(case, choice)
    if {thing[0] for thing in reached if len(thing) == 1} != set(choice):
        return None
    chosen = {name: pack for pack in packs for name in choice if pack[:2] == (name, choice[name])}
    for _, conditions, need in needs_with_conditions(case):
        if all(holds(reached, choice, one) for one in conditions) and not is_plainly_in(choice[need[0]], need[1]):
            return None
    for thing in reached:
        if len(thing) == 2 and thing[1] not in [told[0] for told in chosen[thing[0]][5]]:
            return None
    for name, pack in chosen.items():
        if any(peer not in choice or not is_plainly_in(choice[peer], one) for peer, one in pack[3]):
            return None
        if any(bar in choice and is_plainly_in(choice[bar], one) for bar, one in pack[4]):
            return None
        if pack[:2] in withdrawn and (name not in lock or lock[name][0] != pack[1]):
            return None
        if any(clash(pack, other) for its, other in chosen.items() if its != name):
            return None
    return {name: (choice[name], tuple(sorted(thing[1] for thing in reached if len(thing) == 2 and thing[0] == name)))
            for name in sorted(choice)}


def options(case, name):
    return [None] + [pack[1] for pack in case[0][0] if pack[0] == name]


def row(case):
    found = []
    for need in case[1]:
        if need[0] not in found:
            found.append(need[0])
    return found + [name for name in names(case) if name not in found]


def is_liked_better(case, name, one, other):
    """Tell whether of two unlike options the first is liked better."""
    _, wish, lock, mode = case
    for_lock = mode == "steady" and name in lock
    if one is None or other is None:
        wanted = for_lock or name in [need[0] for need in wish]
        return (other is None) if wanted else (one is None)
    if for_lock and lock[name][0] in (one, other):
        return lock[name][0] == one
    return one < other if mode == "oldest" else one > other


def compared(case, one, other):
    """Return -1 if one plan is ahead of another one, 1 if the other one is, 0 if they are the same."""
    for name in row(case):
        mine, its = one.get(name, (None,))[0], other.get(name, (None,))[0]
        if mine != its:
            return -1 if is_liked_better(case, name, mine, its) else 1
    return 0


def ways(case):
    many = 1
    for name in names(case):
        many *= len(options(case, name))
    return many


def plans(case):
    """Return the list of all plans, each one ahead of those behind it."""
    told = names(case)
    found = []
    for way in itertools.product(*[options(case, name) for name in told]):
        one = plan(case, {name: option for name, option in zip(told, way) if option is not None})
        if one is not None:
            found.append(one)
    return sorted(found, key=functools.cmp_to_key(lambda one, other: compared(case, one, other)))
