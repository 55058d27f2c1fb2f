"""Reach: which things a choice reaches, by which road, and which lots are shut."""

from packsworn.demands import supports, things_of
from packsworn.versions import is_version


def is_name_thing(thing):
    """Tell whether a thing is a name, and no feature of one."""
    return len(thing) == 1


def condition_met(choice, thing):
    """Return the condition on a thing that holds by a choice, if the thing is reached."""
    if is_name_thing(thing):
        return (thing, choice.get(thing[0]))
    return (thing, True)


def condition_holds(reached, choice, condition):
    """Tell whether a condition HOLDS by a choice that reaches these things."""
    return condition[0] in reached and condition == condition_met(choice, condition[0])


def leaning_on(rows):
    """Return the dict from the conditions of some supports to the indexes of those that have them."""
    found = {}
    for index, (conditions, _) in enumerate(rows):
        for condition in conditions:
            found.setdefault(condition, []).append(index)
    return found


def net_of(rows):
    """Return what is asked of some supports for each choice anew."""
    return {
        "goals": [goal for _, goal in rows],
        "missing": [len(conditions) for conditions, _ in rows],
        "given": sorted({goal for conditions, goal in rows if not conditions}),
        "leaning": leaning_on(rows),
    }


def ranks_by(net, choice):
    """Return the dict from the things that a net lets a choice reach to their least RANKS."""
    goals, leaning, missing = net["goals"], net["leaning"], list(net["missing"])
    row = list(net["given"])
    found = {thing: 0 for thing in row}
    at = 0
    # Things come into the row by rising ranks, so the last condition to be met is one of the highest.
    while at < len(row):
        here = row[at]
        for index in leaning.get(condition_met(choice, here), []):
            missing[index] -= 1
            goal = goals[index]
            if missing[index] == 0 and goal not in found:
                found[goal] = found[here] + 1
                row.append(goal)
        at += 1
    return {thing: found[thing] for thing in sorted(found)}


def ranks(case, choice):
    """Return the dict from the things that a choice reaches to their least RANKS."""
    return ranks_by(net_of(supports(case)), choice)


def reach(case, choice):
    """Return the REACH of a choice."""
    return tuple(ranks(case, choice))


def unreached(case, choice):
    """Return the LOT of the things of a case that a choice does not reach."""
    reached = ranks(case, choice)
    return tuple([thing for thing in things_of(case) if thing not in reached])


def is_lower(places, choice, conditions, place):
    """Tell whether conditions hold, all on things of ranks below a place."""
    return all([condition_holds(places, choice, one) and places[one[0]] < place for one in conditions])


def best_supports(case, choice, places):
    """Return the dict from each thing reached to a support that leans on things of lesser ranks."""
    found = {}
    for conditions, thing in supports(case):
        if thing in places and thing not in found and is_lower(places, choice, conditions, places[thing]):
            found[thing] = (conditions, thing)
    return found


def road_to(case, choice, thing):
    """Return a ROAD to a thing by a choice, None if the thing is not reached."""
    places = ranks(case, choice)
    if thing not in places:
        return None
    best = best_supports(case, choice, places)
    needed = {thing: True}
    row = [thing]
    at = 0
    while at < len(row):
        conditions = best[row[at]][0]
        for earlier, _ in conditions:
            if earlier not in needed:
                needed[earlier] = True
                row.append(earlier)
        at += 1
    steps = sorted([(places[step], step) for step in needed])
    return tuple([best[goal] for _, goal in steps])


def is_thing(value):
    """Tell whether any value has the form of a thing."""
    return isinstance(value, tuple) and 1 <= len(value) <= 2 and all([isinstance(word, str) for word in value])


def is_condition(value):
    """Tell whether any value has the form of a condition."""
    if not isinstance(value, tuple) or len(value) != 2 or not is_thing(value[0]):
        return False
    return value[1] is True or is_version(value[1])


def is_support(value):
    """Tell whether any value has the form of a support."""
    if not isinstance(value, tuple) or len(value) != 2 or not isinstance(value[0], tuple):
        return False
    return all([is_condition(part) for part in value[0]]) and is_thing(value[1])


def is_road(case, choice, thing, value):
    """Tell whether any value is a ROAD to a thing by a choice."""
    if not isinstance(value, tuple) or not value or not all([is_support(part) for part in value]):
        return False
    known = {row: True for row in supports(case)}
    passed = {}
    for support in value:
        conditions, goal = support
        if support not in known or goal in passed:
            return False
        if not all([condition_holds(passed, choice, condition) for condition in conditions]):
            return False
        passed[goal] = True
    return value[-1][1] == thing


def is_held_off(choice, members, conditions):
    """Tell whether a condition is on a member, or on a name of which the choice has another version."""
    for condition in conditions:
        if condition[0] in members:
            return True
        if is_name_thing(condition[0]) and condition != condition_met(choice, condition[0]):
            return True
    return False


def is_lot_of_things(case, value):
    """Tell whether any value is a LOT of things of a case."""
    if not isinstance(value, tuple) or not all([is_thing(part) for part in value]):
        return False
    known = {thing: True for thing in things_of(case)}
    if not all([part in known for part in value]):
        return False
    return all([value[at] < value[at + 1] for at in range(len(value) - 1)])


def is_shut(case, choice, value):
    """Tell whether any value is a LOT of things of a case that is SHUT by a choice."""
    if not is_lot_of_things(case, value):
        return False
    members = {thing: True for thing in value}
    open_ones = [row for row in supports(case) if row[1] in members and not is_held_off(choice, members, row[0])]
    return not open_ones
