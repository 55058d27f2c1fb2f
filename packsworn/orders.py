"""Orders: in which the names of a plan can be installed, and why not in fewer rounds."""

from packsworn.axioms import is_line_form
from packsworn.demands import need_of
from packsworn.forms import is_all_of
from packsworn.whys import held_lines, needs_between, rings_between


def group_by_name(between):
    """Return the dict from names that need each other to their GROUPS."""
    found = {name: (name,) for name in between}
    for ring in rings_between(between):
        for member in ring:
            found[member] = ring
    return found


def groups_below(between):
    """Return the dict from the GROUPS, ascending, to the lists of the other ones that they need."""
    group_of = group_by_name(between)
    found = {group: {} for group in sorted(set(list(group_of.values())))}
    for name in between:
        for other in between[name]:
            if group_of[other] != group_of[name]:
                found[group_of[name]][group_of[other]] = True
    return {group: list(found[group]) for group in found}


def able_groups(below, done):
    """Return the list of the groups, ascending, that are not done and need only those that are."""
    return [group for group in below if group not in done and all([other in done for other in below[group]])]


def install_order(case, plan):
    """Return the INSTALL ORDER that has at each place the least group that can stand there."""
    below = groups_below(needs_between(case, plan))
    done = {}
    while len(done) < len(below):
        done[able_groups(below, done)[0]] = True
    return tuple(done)


def is_name_row(value):
    """Tell whether any value is a tuple of strings."""
    return isinstance(value, tuple) and all([isinstance(part, str) for part in value])


def is_install_order(case, plan, thing):
    """Tell whether any value is an INSTALL ORDER of a plan."""
    below = groups_below(needs_between(case, plan))
    if not is_all_of(thing, is_name_row) or len(thing) != len(below):
        return False
    done = {}
    for group in thing:
        if group not in below or group in done or not all([other in done for other in below[group]]):
            return False
        done[group] = True
    return True


def levels_of(below):
    """Return the dict from the GROUPS to the earliest round in which each can stand."""
    found = {}
    while len(found) < len(below):
        able = able_groups(below, found)
        for group in able:
            found[group] = 1 + max([found[other] for other in below[group]], default=-1)
    return found


def rounds(case, plan):
    """Return the LOTS of names that can be installed at once, as few as can be."""
    levels = levels_of(groups_below(needs_between(case, plan)))
    many = 1 + max(list(levels.values()), default=-1)
    return tuple([tuple(sorted([name for group in levels for name in group if levels[group] == at]))
                  for at in range(many)])


def links_between(case, plan):
    """Return the dict from the LINES that may stand in a CHAIN to the two groups that they join."""
    group_of = group_by_name(needs_between(case, plan))
    lines = [line for line in held_lines(case, plan) if line[0] != "wish"]
    found = {line: (group_of[line[1]], group_of[need_of(case, line)[0]]) for line in lines}
    return {line: found[line] for line in found if found[line][0] != found[line][1]}


def is_chain(case, plan, thing):
    """Tell whether any value is a CHAIN of a plan."""
    links = links_between(case, plan)
    if not is_all_of(thing, is_line_form) or not all([line in links for line in thing]):
        return False
    return all([links[thing[at]][1] == links[thing[at + 1]][0] for at in range(len(thing) - 1)])


def longest_chain(case, plan):
    """Return a CHAIN of as many lines as there are rounds less one, () if there are none."""
    levels = levels_of(groups_below(needs_between(case, plan)))
    links = links_between(case, plan)
    chain = []
    here = max(list(levels), key=lambda group: levels[group], default=())
    while levels.get(here, 0) > 0:
        steps = [line for line in links if links[line][0] == here and levels[links[line][1]] == levels[here] - 1]
        chain.append(steps[0])
        here = links[steps[0]][1]
    return tuple(chain)
