"""Narrowing: options that go because an axiom leaves no others."""

from packsworn.axioms import axiom_grounds, clause_on, is_axiom_form, plain_axioms_on
from packsworn.clauses import FEATURE_OPTIONS, all_options, is_lot_of_options
from packsworn.forms import is_row
from packsworn.liking import liked_options, row_of
from packsworn.reach import is_thing
from packsworn.watching import Field


def sequence_of(case):
    """Return the SEQUENCE of a case."""
    features = [variable for variable in all_options(case) if len(variable) == 2]
    return tuple([(name,) for name in row_of(case)] + features)


def liked(case, variable):
    """Return the tuple of the options of a variable in the order in which they are liked."""
    if len(variable) == 2:
        return FEATURE_OPTIONS
    return liked_options(case, variable[0])


def chosen_domains(options, choices):
    """Return the DOMAINS in which just the choices are made."""
    return {variable: (choices[variable],) if variable in choices else options[variable] for variable in options}


def domains_of(case, choices):
    """Return the DOMAINS in which just the choices are made."""
    return chosen_domains(all_options(case), choices)


def limits_of_choices(choices):
    """Return the dict from the variables of choices to tuples of the option chosen."""
    return {variable: (choices[variable],) for variable in choices}


def narrowed(case, choices):
    """Return the DOMAINS behind all narrowing, the trail of it, and the name of an axiom that fails, or None."""
    grounds = axiom_grounds(case)
    names = plain_axioms_on(grounds)
    field = Field(grounds["options"])
    for name in names:
        field.add_row(field.pairs_of(clause_on(grounds, name)))
    failed = field.begin(limits_of_choices(choices))
    domains = {variable: field.open_options(number) for variable, number in field.numbers.items()}
    trail = [(field.variables[number], names[index]) for number, _, index in field.trail if index is not None]
    return domains, tuple(trail), None if failed is None else names[failed]


def open_ones(clause, domains):
    """Return the list of the variables of a clause of which it has an open option."""
    return [variable for variable, options in clause if any([option in options for option in domains[variable]])]


def left_by(clause, domains, variable):
    """Return the options that a clause leaves open of a variable, None if it does not narrow this one."""
    if open_ones(clause, domains) != [variable]:
        return None
    options = dict(clause)[variable]
    left = tuple([option for option in domains[variable] if option in options])
    return None if left == domains[variable] else left


def is_at_rest(clause, domains):
    """Tell whether a clause neither narrows domains nor fails on them."""
    ones = open_ones(clause, domains)
    return len(ones) > 1 or len(ones) == 1 and left_by(clause, domains, ones[0]) is None


def is_trail_part(clauses, value):
    """Tell whether any value is a variable with the name of an axiom with one of these clauses."""
    return is_row(value, 2) and is_thing(value[0]) and is_axiom_form(value[1]) and value[1] in clauses


def behind_trail(clauses, domains, trail):
    """Return the DOMAINS behind those that are passed, None if the trail, any value, does not lead on from them."""
    if not isinstance(trail, tuple) or not all([is_trail_part(clauses, part) for part in trail]):
        return None
    here = {thing: domains[thing] for thing in domains}
    for variable, name in trail:
        left = left_by(clauses[name], here, variable)
        if left is None:
            return None
        here[variable] = left
    return here


def are_domains(options, value):
    """Tell whether any value has the form of DOMAINS; options are those of all variables."""
    if not isinstance(value, dict) or len(value) != len(options):
        return False
    return all([variable in value and is_lot_of_options(options[variable], value[variable]) for variable in options])


def is_end(clauses, domains, failed):
    """Tell whether any value is the name of an axiom that fails on domains, or None where all are at rest."""
    if failed is None:
        return all([is_at_rest(clause, domains) for clause in list(clauses.values())])
    return is_axiom_form(failed) and failed in clauses and open_ones(clauses[failed], domains) == []


def is_narrowed(case, choices, thing):
    """Tell whether any value is what narrowed may return, whatever the order in which the axioms came."""
    if not is_row(thing, 3):
        return False
    grounds = axiom_grounds(case)
    domains, trail, failed = thing
    if not are_domains(grounds["options"], domains):
        return False
    clauses = {name: clause_on(grounds, name) for name in plain_axioms_on(grounds)}
    here = behind_trail(clauses, chosen_domains(grounds["options"], choices), trail)
    return here is not None and here == domains and is_end(clauses, domains, failed)
