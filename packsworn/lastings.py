"""Papers that last: clauses of all versions, released or not, and what later packs can change."""

from packsworn.axioms import axiom_grounds, clause_on, is_axiom_form
from packsworn.clauses import gives
from packsworn.overlays import packs_by_mark
from packsworn.ranges import all_of, is_in, just, meet, none_of, range_of, rest, union


def absent_only():
    """Return the options of a name that is absent."""
    return True, none_of()


def within(one):
    """Return the options of a name that has a version in a range."""
    return False, one


def not_within(one):
    """Return the options of a name that is absent, or has a version that is not in a range."""
    return True, rest(one)


def option_told(option):
    """Return the options that have just one option of a variable of a case."""
    if option is None:
        return absent_only()
    if isinstance(option, bool):
        return (option,)
    return within(just(option))


def long_denied(condition):
    """Return the row that a condition is denied."""
    variable, option = condition
    return variable, ((False,) if len(variable) == 2 else not_within(just(option)))


def rows_of_line(grounds, name):
    """Return the rows of an axiom that follows from a LINE."""
    conditions, need = grounds["lines"][name[1]]
    rows = [long_denied(condition) for condition in conditions]
    if name[0] == "range":
        return rows + [((need[0],), within(need[1]))]
    if name[0] == "feature":
        return rows + [((need[0], name[2]), (True,))]
    return rows + [long_denied(((need[0],), name[2])), ((need[0], name[3]), (True,))]


def rows_of_pack(grounds, name):
    """Return the rows of an axiom that follows from a pack without its needs and extras."""
    word, pack = name[0], grounds["packs"][name[1:3]]
    rows = [long_denied(((name[1],), name[2]))]
    if word == "peer":
        peer, one = pack[3][name[3]]
        return rows + [((peer,), within(one))]
    if word == "bar":
        bar, one = pack[4][name[3]]
        return rows + [((bar,), not_within(one))]
    if word == "clash":
        return rows + [long_denied(((name[3],), name[4]))]
    if word == "withdrawn":
        return rows
    rows.append(((name[1], name[3]), (False,)))
    return rows + [((name[1], name[4]), (True,))] if word == "also" else rows


def rows_of_absent(_, name):
    """Return the rows of the axiom that what is absent has not a feature."""
    return [((name[1],), within(all_of())), ((name[1], name[2]), (False,))]


def released_rows(grounds, things):
    """Return the rows that some name, but for those of some things, has a version that is not in the registry."""
    options = grounds["options"]
    names = [variable for variable in options if len(variable) == 1 and variable not in things]
    return [(name, within(rest(range_of(options[name][1:])))) for name in names]


def rows_of_loop(grounds, name):
    """Return the rows of a loop."""
    _, things, thing, picks = name
    rows = [(thing, absent_only() if len(thing) == 1 else (False,))]
    rows.extend([(variable, option_told(option)) for variable, option in picks])
    return rows + released_rows(grounds, things)


LONG_ROWS = {
    "range": rows_of_line, "feature": rows_of_line, "default": rows_of_line, "also": rows_of_pack,
    "known": rows_of_pack, "absent": rows_of_absent, "peer": rows_of_pack, "bar": rows_of_pack, "clash": rows_of_pack,
    "withdrawn": rows_of_pack, "loop": rows_of_loop,
}


def are_none(variable, options):
    """Tell whether options of a variable are none at all."""
    return options == () if len(variable) == 2 else options == (False, none_of())


def either(variable, one, other):
    """Return the options of a variable that are in one or the other."""
    if len(variable) == 2:
        return tuple(sorted(set(one + other)))
    return one[0] or other[0], union(one[1], other[1])


def both(variable, one, other):
    """Return the options of a variable that are in both."""
    if len(variable) == 2:
        return tuple([option for option in one if option in other])
    return one[0] and other[0], meet(one[1], other[1])


def made_long(rows):
    """Return the LONG CLAUSE that has for each variable all options that some row has for it."""
    found = {}
    for variable, options in rows:
        found[variable] = either(variable, found[variable], options) if variable in found else options
    return tuple([(thing, found[thing]) for thing in sorted(found) if not are_none(thing, found[thing])])


def long_clause_on(grounds, name):
    """Return the long clause of an AXIOM."""
    make = LONG_ROWS[name[0]]
    return made_long(make(grounds, name))


def long_clause(case, thing):
    """Return the long clause of the AXIOM that any value names, None if it names none."""
    if not is_axiom_form(thing):
        return None
    grounds = axiom_grounds(case)
    return None if clause_on(grounds, thing) is None else long_clause_on(grounds, thing)


def long_joined(one, other, variable):
    """Return the LONG CLAUSE that comes of two, each of which has a variable, on this variable."""
    here, there = dict(one)[variable], dict(other)[variable]
    rows = [row for row in one + other if row[0] != variable]
    return made_long(rows + [(variable, both(variable, here, there))])


def long_clauses(case, steps):
    """Return the tuple of the long clauses of the steps of a DERIVATION."""
    grounds = axiom_grounds(case)
    clauses = []
    for step in steps:
        if step[0] == "axiom":
            clauses.append(long_clause_on(grounds, step[1]))
        else:
            clauses.append(long_joined(clauses[step[1]], clauses[step[2]], step[3]))
    return tuple(clauses)


def is_given(plan, variable, options):
    """Tell whether a dict of the form of a plan gives a variable one of these options."""
    option = gives(plan, variable)
    if len(variable) == 2:
        return option in options
    return options[0] if option is None else is_in(option, options[1])


def long_holds(clause, plan):
    """Tell whether a LONG CLAUSE HOLDS in a dict of the form of a plan."""
    return any([is_given(plan, variable, options) for variable, options in clause])


def what_can_help(case, steps):
    """Return the dict from names to the RANGES that the last long clause of a NONE PAPER has for them."""
    return {variable[0]: options[1] for variable, options in long_clauses(case, steps)[-1]}


def is_later(case, other):
    """Tell whether another case is LATER than a case."""
    if other[1] != case[1] or other[2] != case[2]:
        return False
    its = packs_by_mark(other[0])
    packs, withdrawn = case[0]
    return all([its.get(pack[:2]) == pack for pack in packs]) and all([mark in other[0][1] for mark in withdrawn])


def helpers(case, steps, other):
    """Return the LOT of the packs of a later case that can help against a NONE PAPER, as (name, version)."""
    ranges = what_can_help(case, steps)
    return tuple([pack[:2] for pack in other[0][0] if pack[0] in ranges and is_in(pack[1], ranges[pack[0]])])


def still_none(case, steps, other):
    """Tell whether a case is later, and has no packs that can help: then it has no plan either."""
    return is_later(case, other) and helpers(case, steps, other) == ()
