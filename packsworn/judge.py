"""The judge: reads papers line by line, and each line by itself."""

from packsworn.axioms import axiom_grounds, clause_on, is_axiom_form
from packsworn.clauses import gives, joined
from packsworn.forms import is_row
from packsworn.liking import liked_options, option_of, row_of
from packsworn.reach import is_thing
from packsworn.versions import is_integer


def is_place(value, many):
    """Tell whether any value is the index of one of so many."""
    return is_integer(value) and 0 <= value < many


def join_of(clauses, step):
    """Return the JOIN that a step tells of clauses ahead of it, None if it tells none."""
    one, other, variable = step[1:]
    if not is_place(one, len(clauses)) or not is_place(other, len(clauses)) or not is_thing(variable):
        return None
    if variable not in dict(clauses[one]) or variable not in dict(clauses[other]):
        return None
    return joined(clauses[one], clauses[other], variable)


def clause_of_step(grounds, clauses, step):
    """Return the clause of a step behind those with these clauses, None if any value is no such step."""
    if not isinstance(step, tuple) or not step or not isinstance(step[0], str):
        return None
    if step[0] == "axiom" and len(step) == 2 and is_axiom_form(step[1]):
        return clause_on(grounds, step[1])
    if step[0] == "join" and len(step) == 4:
        return join_of(clauses, step)
    return None


def judged(case, thing):
    """Return the list of the clauses of a DERIVATION, None if any value is none."""
    if not isinstance(thing, tuple):
        return None
    grounds = axiom_grounds(case)
    clauses = []
    for step in thing:
        clause = clause_of_step(grounds, clauses, step)
        if clause is None:
            return None
        clauses.append(clause)
    return clauses


def clauses_of(case, steps):
    """Return the tuple of the clauses of the steps of a DERIVATION."""
    return tuple(judged(case, steps))


def is_derivation(case, thing):
    """Tell whether any value is a DERIVATION of a case."""
    return judged(case, thing) is not None


def is_none_paper(case, thing):
    """Tell whether any value is a NONE PAPER of a case."""
    clauses = judged(case, thing)
    return clauses is not None and clauses[-1:] == [()]


def passed(case, plan):
    """Return the list of the PASSED options of a plan."""
    found = []
    for name in row_of(case):
        options = liked_options(case, name)
        found.extend([(name, option) for option in options[:options.index(option_of(plan, name))]])
    return found


def has_failed(clause, plan, ahead, name, option):
    """Tell whether a clause fails by a plan's options of the names ahead and an option of a name, and has no others."""
    for variable, options in clause:
        if variable == (name,):
            good = option not in options
        else:
            good = len(variable) == 1 and variable[0] in ahead and gives(plan, variable) not in options
        if not good:
            return False
    return True


def are_marks(case, plan, clauses, marks):
    """Tell whether any value has, for each PASSED option of a plan, the index of a clause that rules it out."""
    wanted = passed(case, plan)
    if not is_row(marks, len(wanted)) or not all([is_place(mark, len(clauses)) for mark in marks]):
        return False
    row = row_of(case)
    ahead = {name: row[:at] for at, name in enumerate(row)}
    pairs = list(zip(wanted, marks))
    return all([has_failed(clauses[mark], plan, ahead[name], name, option) for (name, option), mark in pairs])


def is_first_paper(case, plan, thing):
    """Tell whether any value is a FIRST PAPER of a plan of a case."""
    if not is_row(thing, 2):
        return False
    clauses = judged(case, thing[0])
    return clauses is not None and are_marks(case, plan, clauses, thing[1])


def naming_order(part):
    """Return what puts names of axioms, and parts of them, in their order, None ahead of all else."""
    if isinstance(part, tuple):
        return (1, tuple([naming_order(one) for one in part]))
    return (0, 0) if part is None else (1, part)


def axioms_used(steps):
    """Return the ascending list of the names of axioms in a derivation."""
    names = {step[1]: True for step in steps if step[0] == "axiom"}
    return sorted(list(names), key=naming_order)


def needed_for(steps, kept):
    """Return the dict of the indexes of the steps that are in kept, or needed for one of these by joins."""
    found = {mark: True for mark in kept}
    for place in range(len(steps) - 1, -1, -1):
        if place in found and steps[place][0] == "join":
            found[steps[place][1]] = True
            found[steps[place][2]] = True
    return found


def trimmed(steps, kept):
    """Return the DERIVATION of the steps in kept and those they need, each once, and the places of those in kept."""
    needed = needed_for(steps, kept)
    places = {}
    told = {}
    for place, step in enumerate(steps):
        if place in needed:
            if step[0] == "join":
                step = ("join", places[step[1]], places[step[2]], step[3])
            places[place] = told.setdefault(step, len(told))
    return tuple(told), tuple([places[mark] for mark in kept])
