"""Demands: the needs of a case, under which conditions they stand, and what they support."""

from packsworn.registry import feature_of, pack_of


def needs_of_pack(pack):
    """Return the list of the needs of a pack, those of its extras behind its own."""
    return list(pack[2]) + [need for told in pack[5] for need in told[2]]


def all_needs(case):
    """Return the list of the needs of the wish, of the packs and of their extras."""
    return list(case[1]) + [need for pack in case[0][0] for need in needs_of_pack(pack)]


def case_names(case):
    """Return the LOT of the names of a case."""
    packs = case[0][0]
    names = [pack[0] for pack in packs] + [need[0] for need in all_needs(case)]
    names.extend([note[0] for pack in packs for note in pack[3] + pack[4]])
    return tuple(sorted(set(names)))


def lines_of_pack(pack):
    """Return the list of the LINES of a pack, those of its extras behind those of its needs."""
    name, version = pack[:2]
    lines = [("need", name, version, index) for index in range(len(pack[2]))]
    for feature, _, extras in pack[5]:
        lines.extend([("extra", name, version, feature, index) for index in range(len(extras))])
    return lines


def lines_of(case):
    """Return the list of all LINES of a case."""
    wished = [("wish", index) for index in range(len(case[1]))]
    return wished + [line for pack in case[0][0] for line in lines_of_pack(pack)]


def need_of(case, line):
    """Return the NEED that a line tells."""
    if line[0] == "wish":
        return case[1][line[1]]
    pack = pack_of(case[0], line[1], line[2])
    if line[0] == "need":
        return pack[2][line[3]]
    return feature_of(pack, line[3])[2][line[4]]


def conditions_of(line):
    """Return the tuple of the CONDITIONS of a line."""
    if line[0] == "wish":
        return ()
    at_pack = ((line[1],), line[2])
    if line[0] == "need":
        return (at_pack,)
    return (at_pack, ((line[1], line[3]), True))


def things_of(case):
    """Return the LOT of the things of a case."""
    things = [(name,) for name in case_names(case)]
    things.extend([(need[0], feature) for need in all_needs(case) for feature in need[2]])
    things.extend([(pack[0], told[0]) for pack in case[0][0] for told in pack[5]])
    return tuple(sorted(set(things)))


def supports_of_need(case, conditions, need):
    """Return the list of the SUPPORTS that a need gives under conditions."""
    name, _, features, bare = need
    found = [(conditions, (name,))] + [(conditions, (name, feature)) for feature in features]
    if bare:
        return found
    for pack in case[0][0]:
        if pack[0] == name:
            more = tuple(sorted(set(conditions + (((name,), pack[1]),))))
            found.extend([(more, (name, feature)) for feature in pack[6]])
    return found


def supports_of_also(pack):
    """Return the list of the SUPPORTS that the features of a pack give to others of it."""
    name, version = pack[:2]
    found = []
    for feature, also, _ in pack[5]:
        conditions = (((name,), version), ((name, feature), True))
        found.extend([(conditions, (name, other)) for other in also])
    return found


def supports(case):
    """Return the ascending list of the SUPPORTS of a case."""
    found = [support for pack in case[0][0] for support in supports_of_also(pack)]
    for line in lines_of(case):
        found.extend(supports_of_need(case, conditions_of(line), need_of(case, line)))
    return sorted(set(found))
