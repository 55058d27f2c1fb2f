"""Liking: which of two plans is ahead, and all plans in this order."""

from packsworn.demands import case_names
from packsworn.errors import TooMany
from packsworn.plans import grounds_of, plan_on
from packsworn.registry import versions_of

MOST_WAYS = 20000


def wished_names(case):
    """Return the list of the names of the wish, each where it first comes."""
    found = {need[0]: True for need in case[1]}
    return list(found)


def row_of(case):
    """Return the ROW of a case."""
    wished = wished_names(case)
    return tuple(wished + [name for name in case_names(case) if name not in wished])


def liked_options(case, name):
    """Return the tuple of the OPTIONS of a name in the order in which they are LIKED."""
    registry, _, lock, mode = case
    versions = versions_of(registry, name)
    held = lock[name][0] if mode == "steady" and name in lock else None
    first = [version for version in versions if version == held]
    others = [version for version in versions if version != held]
    if mode != "oldest":
        others = list(reversed(others))
    if held is not None or name in wished_names(case):
        return tuple(first + others + [None])
    return tuple([None] + others)


def option_of(plan, name):
    """Return the option that a plan has for a name."""
    return plan[name][0] if name in plan else None


def liking(case, plan):
    """Return the places of the options of a plan in the order of liking, name by name of the row."""
    return tuple([liked_options(case, name).index(option_of(plan, name)) for name in row_of(case)])


def is_ahead(case, one, other):
    """Tell whether a plan is AHEAD of another one."""
    return liking(case, one) < liking(case, other)


def first_unlike(case, one, other):
    """Return the first name of the row in which two plans differ, None if there is none."""
    for name in row_of(case):
        if option_of(one, name) != option_of(other, name):
            return name
    return None


def ways_of(case):
    """Return the list of all ways to choose an OPTION of each name of the row, those liked better first."""
    options = [liked_options(case, name) for name in row_of(case)]
    many = 1
    for row in options:
        many = many * len(row)
    if many > MOST_WAYS:
        raise TooMany(MOST_WAYS)
    ways = [()]
    for row in options:
        ways = [way + (option,) for way in ways for option in row]
    return ways


def choices_of(case):
    """Return the list of all CHOICES of a case, those liked better first."""
    names = row_of(case)
    return [{name: option for name, option in zip(names, way) if option is not None} for way in ways_of(case)]


def all_plans(case):
    """Return the list of all plans, each one AHEAD of those behind it."""
    choices = choices_of(case)
    grounds = grounds_of(case)
    plans = [plan_on(grounds, choice) for choice in choices]
    return [plan for plan in plans if plan is not None]


def first_by_all(case):
    """Return the FIRST plan by going through all of them, None if there is none."""
    choices = choices_of(case)
    grounds = grounds_of(case)
    for choice in choices:
        plan = plan_on(grounds, choice)
        if plan is not None:
            return plan
    return None
