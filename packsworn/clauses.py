"""Clauses: of some variables, options one of which a plan gives."""

from packsworn.demands import things_of
from packsworn.forms import is_ascending, is_row
from packsworn.reach import is_thing
from packsworn.registry import versions_of
from packsworn.versions import is_version

FEATURE_OPTIONS = (False, True)


def variables_of(case):
    """Return the LOT of the variables of a case, which are its things."""
    return things_of(case)


def options_of(case, variable):
    """Return the LOT of the options of a variable."""
    if len(variable) == 2:
        return FEATURE_OPTIONS
    return (None,) + versions_of(case[0], variable[0])


def all_options(case):
    """Return the dict from the variables of a case to the LOTS of their options."""
    return {variable: options_of(case, variable) for variable in variables_of(case)}


def gives(plan, variable):
    """Return the option that a dict of the form of a plan gives a variable."""
    name = variable[0]
    if len(variable) == 1:
        return plan[name][0] if name in plan else None
    return name in plan and variable[1] in plan[name][1]


def option_order(option):
    """Return what puts options of one variable in their order, None ahead of the versions."""
    return () if option is None else option


def is_option(value):
    """Tell whether any value has the form of an option; 1 and 0 have not."""
    return value is None or isinstance(value, bool) or is_version(value)


def is_lot_of_options(options, value):
    """Tell whether any value is a LOT of some of these options, which are ascending."""
    if not isinstance(value, tuple) or not all([is_option(part) for part in value]):
        return False
    return value == tuple([option for option in options if option in value])


def is_clause_part(options, value):
    """Tell whether any value is a variable with options of it, at least one; options are those of all variables."""
    if not is_row(value, 2) or not is_thing(value[0]) or value[0] not in options:
        return False
    return is_lot_of_options(options[value[0]], value[1]) and value[1] != ()


def is_clause(case, thing):
    """Tell whether any value is a CLAUSE of a case."""
    if not isinstance(thing, tuple):
        return False
    options = all_options(case)
    return all([is_clause_part(options, part) for part in thing]) and is_ascending([part[0] for part in thing])


def clause_holds(clause, plan):
    """Tell whether a clause HOLDS in a dict of the form of a plan."""
    return any([gives(plan, variable) in options for variable, options in clause])


def made_clause(rows):
    """Return the CLAUSE that has for each variable all options that some row has for it."""
    found = {}
    for variable, options in rows:
        row = found.setdefault(variable, {})
        for option in options:
            row[option] = True
    named = [thing for thing in sorted(found) if found[thing]]
    return tuple([(thing, tuple(sorted(list(found[thing]), key=option_order))) for thing in named])


def joined(one, other, variable):
    """Return the JOIN of two clauses on a variable that stands in both."""
    here, there = dict(one)[variable], dict(other)[variable]
    rows = [row for row in one + other if row[0] != variable]
    return made_clause(rows + [(variable, tuple([option for option in here if option in there]))])
