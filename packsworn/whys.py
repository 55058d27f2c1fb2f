"""Whys: which needs stand behind a name of a plan."""

from packsworn.clauses import gives
from packsworn.demands import conditions_of, lines_of, need_of, supports
from packsworn.plans import choice_of
from packsworn.reach import net_of, ranks_by, road_to


def line_holds(plan, line):
    """Tell whether a line HOLDS in a plan."""
    return all([gives(plan, variable) == option for variable, option in conditions_of(line)])


def held_lines(case, plan):
    """Return the list of the LINES that hold in a plan."""
    return [line for line in lines_of(case) if line_holds(plan, line)]


def needers(case, plan, name):
    """Return the list of the LINES that hold in a plan and need a name."""
    return [line for line in held_lines(case, plan) if need_of(case, line)[0] == name]


def why_there(case, plan, name):
    """Return a ROAD to a name of a plan on which nothing stands idle."""
    return road_to(case, choice_of(plan), (name,))


def leaning(case, plan, name):
    """Return the LOT of the other names of a plan that are reached only by a name."""
    rows = [row for row in supports(case) if row[1][0] != name]
    left = ranks_by(net_of(rows), choice_of(plan))
    return tuple([other for other in sorted(plan) if other != name and (other,) not in left])


def needs_between(case, plan):
    """Return the dict from the names of a plan to those that they need."""
    found = {name: {} for name in sorted(plan)}
    for line in held_lines(case, plan):
        if line[0] != "wish":
            found[line[1]][need_of(case, line)[0]] = True
    return {name: sorted(found[name]) for name in found}


def needed_from(between, name):
    """Return the dict of all names that a name needs, by others or not."""
    found = {}
    row = list(between[name])
    while row:
        other = row.pop()
        if other not in found:
            found[other] = True
            row.extend(between[other])
    return found


def ring_of(below, name):
    """Return the LOT of the names in one ring with a name, () if it is in none."""
    if name not in below[name]:
        return ()
    return tuple([other for other in sorted(below[name]) if name in below[other]])


def rings_between(between):
    """Return the ascending list of the RINGS of names that need each other."""
    below = {name: needed_from(between, name) for name in between}
    found = [ring_of(below, name) for name in between]
    return sorted({ring for ring in found if ring})


def rings(case, plan):
    """Return the ascending list of the RINGS of a plan."""
    return rings_between(needs_between(case, plan))
