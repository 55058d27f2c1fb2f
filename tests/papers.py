"""The definitions of papers, told once more: slowly, and without any call of the package."""

from tests import slow
from tests.kinds import same


def member(value, some):
    """Tell whether a value is one of some, True and 1 being different."""
    return any(same(value, one) for one in some)


def order(option):
    """Return what puts options, and tuples with them, in order, None ahead of all else."""
    if isinstance(option, tuple):
        return (1, tuple(order(part) for part in option))
    return (0,) if option is None else (1, option)


def is_lot(value):
    return type(value) is tuple and all(order(one) < order(other) for one, other in zip(value, value[1:]))


@slow.remembered
def variables(case):
    """Return the dict from the variables to the lists of their options."""
    found = {(name,): slow.options(case, name) for name in slow.names(case)}
    found.update({thing: [False, True] for thing in slow.things(case) if len(thing) == 2})
    return found


def gives(plan, variable):
    if len(variable) == 2:
        return variable[0] in plan and variable[1] in plan[variable[0]][1]
    return plan[variable[0]][0] if variable[0] in plan else None


def holds(clause, plan):
    return any(member(gives(plan, variable), options) for variable, options in clause)


def is_clause(case, value):
    told = variables(case)
    if type(value) is not tuple or not all(type(part) is tuple and len(part) == 2 for part in value):
        return False
    for variable, options in value:
        if not member(variable, told) or not options:
            return False
        if not is_lot_of(options, lambda option: member(option, told[variable])):
            return False
    return all(one[0] < other[0] for one, other in zip(value, value[1:]))


def clause(rows):
    """Return the clause that has for each variable all options of its rows."""
    found = {}
    for variable, options in rows:
        for option in options:
            if not member(option, found.setdefault(variable, [])):
                found[variable].append(option)
    return tuple((variable, tuple(sorted(found[variable], key=order))) for variable in sorted(found) if found[variable])


def join(one, other, variable):
    both = [option for option in dict(one)[variable] if member(option, dict(other)[variable])]
    return clause([part for part in one + other if part[0] != variable] + [(variable, both)])


def denied(case, condition):
    variable, option = condition
    return variable, [other for other in variables(case)[variable] if not same(other, option)]


def in_range(case, name, one):
    return (name,), [option for option in slow.options(case, name) if option and slow.is_plainly_in(option, one)]


def line_axioms(case):
    """Return the dict from the names of the axioms of lines to their rows."""
    found = {}
    for line, conditions, (name, one, features, bare) in slow.needs_with_conditions(case):
        off = [denied(case, condition) for condition in conditions]
        found[("range", line)] = off + [in_range(case, name, one)]
        for feature in features:
            found[("feature", line, feature)] = off + [((name, feature), [True])]
        for pack in case[0][0]:
            if pack[0] == name and not bare:
                for feature in pack[6]:
                    found[("default", line, pack[1], feature)] = off + [
                        denied(case, ((name,), pack[1])), ((name, feature), [True])]
    return found


def pack_axioms(case, pack):
    """Return the dict from the names of the axioms of a pack alone to their rows."""
    name, version, _, peers, bars, features, _, _ = pack
    off = denied(case, ((name,), version))
    found = {}
    for feature, also, _ in features:
        for other in also:
            found[("also", name, version, feature, other)] = [off, ((name, feature), [False]), ((name, other), [True])]
    for variable in variables(case):
        if len(variable) == 2 and variable[0] == name and variable[1] not in [told[0] for told in features]:
            found[("known", name, version, variable[1])] = [off, (variable, [False])]
    for at, (peer, one) in enumerate(peers):
        found[("peer", name, version, at)] = [off, in_range(case, peer, one)]
    for at, (bar, one) in enumerate(bars):
        free = [option for option in slow.options(case, bar) if option is None or not slow.is_plainly_in(option, one)]
        found[("bar", name, version, at)] = [off, ((bar,), free)]
    if (name, version) in case[0][1] and case[2].get(name, (None,))[0] != version:
        found[("withdrawn", name, version)] = [off]
    return found


def axioms(case):
    """Return the dict from the names of all axioms but loops to their clauses."""
    found = line_axioms(case)
    for pack in case[0][0]:
        found.update(pack_axioms(case, pack))
        for other in case[0][0]:
            if pack[0] < other[0] and slow.clash(pack, other):
                found[("clash",) + pack[:2] + other[:2]] = [denied(case, ((one[0],), one[1])) for one in (pack, other)]
    for variable, options in variables(case).items():
        if len(variable) == 2:
            name = variable[:1]
            found[("absent",) + variable] = [(name, slow.options(case, variable[0])[1:]), (variable, [False])]
    return {name: clause(rows) for name, rows in found.items()}


def outside(case, things):
    """Return the conditions of the supports of some things that do not lean on such things."""
    return [conditions for conditions, thing in slow.supports(case)
            if thing in things and not any(variable in things for variable, _ in conditions)]


def loop(case, value):
    """Return the clause of a loop axiom, None if a value names none."""
    if type(value) is not tuple or len(value) != 4 or not same(value[0], "loop"):
        return None
    _, things, thing, picks = value
    told = variables(case)
    if not is_lot_of(things, lambda part: member(part, told)) or not member(thing, things):
        return None
    if not is_lot_of(picks, lambda part: type(part) is tuple and len(part) == 2 and member(part[0], told)
                     and member(part[1], told[part[0]])):
        return None
    if not all(any(member(condition, picks) for condition in conditions) for conditions in outside(case, things)):
        return None
    return clause([(thing, [False if len(thing) == 2 else None])] + [(variable, [option]) for variable, option in picks])


def is_lot_of(value, test):
    return type(value) is tuple and all(test(part) for part in value) and is_lot(value)


def axiom(case, value, known=None):
    """Return the clause of the axiom that any value names, None if it names none."""
    if type(value) is tuple and value and same(value[0], "loop"):
        return loop(case, value)
    for name, found in (known or axioms(case)).items():
        if same(name, value):
            return found
    return None


def judged(case, value, known=None):
    """Return the list of the clauses of a derivation, None if any value is none."""
    known = known or axioms(case)
    if type(value) is not tuple:
        return None
    found = []
    for step in value:
        its = None
        if type(step) is tuple and len(step) == 2 and same(step[0], "axiom"):
            its = axiom(case, step[1], known)
        if type(step) is tuple and len(step) == 4 and same(step[0], "join"):
            ahead = list(range(len(found)))
            if member(step[1], ahead) and member(step[2], ahead):
                one, other = found[step[1]], found[step[2]]
                if member(step[3], dict(one)) and member(step[3], dict(other)):
                    its = join(one, other, step[3])
        if its is None:
            return None
        found.append(its)
    return found


def liked_better(case, plan, name):
    """Return the options of a name that are liked better than what a plan has, those liked most first."""
    mine = gives(plan, (name,))
    better = [option for option in slow.options(case, name)
              if not same(option, mine) and slow.is_liked_better(case, name, option, mine)]
    return sorted(better, key=lambda option: sum(slow.is_liked_better(case, name, other, option)
                                                 for other in better if not same(other, option)))


def passed(case, plan):
    return [(name, option) for name in slow.row(case) for option in liked_better(case, plan, name)]


def is_none_paper(case, value, known=None):
    found = judged(case, value, known)
    return bool(found) and found[-1] == ()


def is_first_paper(case, plan, value, known=None):
    if type(value) is not tuple or len(value) != 2:
        return False
    found = judged(case, value[0], known)
    wanted = passed(case, plan)
    if found is None or type(value[1]) is not tuple or len(value[1]) != len(wanted):
        return False
    for (name, option), mark in zip(wanted, value[1]):
        if not member(mark, list(range(len(found)))):
            return False
        ahead = slow.row(case)[:slow.row(case).index(name)]
        for variable, options in found[mark]:
            if len(variable) == 2 or variable[0] not in ahead + [name]:
                return False
            if member(option if variable[0] == name else gives(plan, variable), options):
                return False
    return True


def domains(case, choices):
    return {variable: [choices[variable]] if variable in choices else list(options)
            for variable, options in variables(case).items()}


def narrowing(open_ones, its):
    """Return (variable, options that stay) if a clause narrows domains, () if it fails, None if neither."""
    left = [variable for variable, options in its if any(member(option, options) for option in open_ones[variable])]
    if not left:
        return ()
    if len(left) > 1:
        return None
    stay = [option for option in open_ones[left[0]] if member(option, dict(its)[left[0]])]
    return None if len(stay) == len(open_ones[left[0]]) else (left[0], stay)


def narrowed(case, choices, chance):
    """Return the domains, the trail and whether some axiom fails at last, of narrowing in an order of chance."""
    known = axioms(case)
    open_ones, trail = domains(case, choices), []
    while True:
        told = {name: narrowing(open_ones, its) for name, its in known.items()}
        failing = [name for name in told if told[name] == ()]
        if failing:
            return open_ones, trail, chance.choice(failing)
        able = [name for name in told if told[name]]
        if not able:
            return open_ones, trail, None
        name = chance.choice(able)
        open_ones[told[name][0]] = told[name][1]
        trail.append((told[name][0], name))


def is_narrowed(case, choices, value, known=None):
    known = known or axioms(case)
    if type(value) is not tuple or len(value) != 3 or type(value[0]) is not dict or type(value[1]) is not tuple:
        return False
    here = domains(case, choices)
    for part in value[1]:
        if type(part) is not tuple or len(part) != 2 or not member(part[1], known):
            return False
        told = narrowing(here, known[part[1]])
        if not told or not same(told[0], part[0]):
            return False
        here[told[0]] = told[1]
    if not same(value[0], {variable: tuple(options) for variable, options in here.items()}):
        return False
    if value[2] is None:
        return all(narrowing(here, its) is None for its in known.values())
    return member(value[2], known) and narrowing(here, known[value[2]]) == ()


def fails_on(its, choices):
    """Tell whether a clause fails on choices."""
    return all(variable in choices and not member(choices[variable], options) for variable, options in its)


def is_kept(choices, plan):
    return all(same(gives(plan, variable), option) for variable, option in choices.items())


def some_choices(chance, case, most):
    """Return choices of a case, their keys in any order."""
    told = variables(case)
    many = chance.randint(0, min(most, len(told)))
    return {variable: chance.choice(told[variable]) for variable in chance.sample(sorted(told), many)}
