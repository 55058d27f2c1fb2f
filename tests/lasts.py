"""Long clauses and later cases, told once more: slowly, by asking version by version."""

import random

from tests import papers, slow
from tests.samples import ONE, THREE, TWO, keen_pack, some_pack

FIRST, LAST = (0, 0, 0), (999999, 999999, 999999)
VERSIONS = [ONE, (1, 0, 1), (1, 5, 0), TWO, THREE, FIRST, LAST, (0, 9, 0), (2, 0, 1), (9, 9, 9)]


def next_version(version):
    number = version[0] * 10 ** 12 + version[1] * 10 ** 6 + version[2] + 1
    return number // 10 ** 12, number // 10 ** 6 % 10 ** 6, number % 10 ** 6


def ranges_in(value):
    """Return all versions that stand anywhere in a value."""
    if type(value) is tuple and len(value) == 3 and all(type(part) is int for part in value):
        return {value}
    return set().union(*[ranges_in(part) for part in value]) if type(value) is tuple else set()


def turning_points(case, clause):
    """Return versions among which two unlike ranges that speak of a case and a clause are told apart."""
    found = ranges_in(case[:2]) | ranges_in(tuple(case[2].values())) | ranges_in(clause) | {FIRST, LAST}
    return sorted(found | {next_version(version) for version in found if version != LAST})


def is_long_clause(value):
    """Tell whether a value has the form of a long clause."""
    if type(value) is not tuple or any(type(part) is not tuple or len(part) != 2 for part in value):
        return False
    for variable, options in value:
        if type(variable) is not tuple or not all(type(word) is str for word in variable) or type(options) is not tuple:
            return False
        if len(variable) == 2 and not any(papers.same(options, row) for row in [(False,), (True,), (False, True)]):
            return False
        if len(variable) == 1 and (len(options) != 2 or type(options[0]) is not bool or not is_range(options[1]) or options == (False, ())):
            return False
    return all(one[0] < other[0] for one, other in zip(value, value[1:]))


def is_range(value):
    ends = [end for low, high in value for end in (low, high)]
    return None not in ends[:-1] and all(one < other for one, other in zip(ends, ends[1:]) if other is not None)


def is_given(options, option):
    """Tell whether options of a long clause have an option."""
    if isinstance(option, bool):
        return option in options
    return options[0] if option is None else slow.is_plainly_in(option, options[1])


def holds(clause, plan):
    return any(is_given(options, papers.gives(plan, variable)) for variable, options in clause)


def but(option):
    return lambda other: other != option


def only(option):
    return lambda other: other == option


def within(one):
    return lambda other: other is not None and slow.is_plainly_in(other, one)


def outside(one):
    return lambda other: other is None or not slow.is_plainly_in(other, one)


def line_rows(case, name):
    conditions, need = [row[1:] for row in slow.needs_with_conditions(case) if row[0] == name[1]][0]
    rows = [(variable, but(option)) for variable, option in conditions]
    if name[0] == "range":
        return rows + [((need[0],), within(need[1]))]
    if name[0] == "feature":
        return rows + [((need[0], name[2]), only(True))]
    return rows + [((need[0],), but(name[2])), ((need[0], name[3]), only(True))]


def loop_rows(case, name):
    _, things, thing, picks = name
    rows = [(thing, only(None if len(thing) == 1 else False))] + [(variable, only(option)) for variable, option in picks]
    for one in slow.names(case):
        if (one,) not in things:
            rows.append(((one,), lambda other, own=slow.options(case, one): other not in own))
    return rows


def rows_of(case, name):
    """Return what an axiom says, part by part: a list of (variable, whether an option is one of its)."""
    word = name[0]
    if word in ("range", "feature", "default"):
        return line_rows(case, name)
    if word == "loop":
        return loop_rows(case, name)
    if word == "absent":
        return [((name[1],), but(None)), (name[1:], only(False))]
    pack = [one for one in case[0][0] if one[:2] == name[1:3]][0]
    rows = [((name[1],), but(name[2]))]
    if word == "also":
        return rows + [((name[1], name[3]), only(False)), ((name[1], name[4]), only(True))]
    if word == "known":
        return rows + [((name[1], name[3]), only(False))]
    if word == "peer":
        return rows + [((pack[3][name[3]][0],), within(pack[3][name[3]][1]))]
    if word == "bar":
        return rows + [((pack[4][name[3]][0],), outside(pack[4][name[3]][1]))]
    return rows + ([((name[3],), but(name[4]))] if word == "clash" else [])


def says(rows, variable, option):
    return any(test(option) for its, test in rows if its == variable)


def joined_says(one, other, variable):
    """Return what a join of two long clauses says, as a test of (variable, option)."""
    def test(its, option):
        here, there = [its in dict(clause) and is_given(dict(clause)[its], option) for clause in (one, other)]
        return here and there if its == variable else here or there
    return test


def is_what_is_said(case, clause, test):
    """Tell whether a clause has just those options of which a test is so."""
    points = [None] + turning_points(case, clause)
    told = dict(clause)
    if not is_long_clause(clause) or not set(told) <= set(papers.variables(case)):
        return False
    for variable in papers.variables(case):
        options = points if len(variable) == 1 else [False, True]
        for option in options:
            if (variable in told and is_given(told[variable], option)) is not test(variable, option):
                return False
    return True


def some_loop(chance, case):
    """Return what may be the name of a loop, with picks enough."""
    told = sorted(papers.variables(case))
    things = tuple(sorted(chance.sample(told, chance.randint(1, min(3, len(told))))))
    picks = set()
    for conditions in papers.outside(case, things):
        if conditions:
            picks.add(chance.choice(sorted(conditions, key=lambda one: (one[0], papers.order(one[1])))))
    if chance.random() < 0.3:
        variable = chance.choice(told)
        picks.add((variable, chance.choice(papers.variables(case)[variable])))
    ordered = tuple(sorted(picks, key=lambda pick: (pick[0], papers.order(pick[1]))))
    return "loop", things, chance.choice(things), ordered


def later_case(chance, case):
    """Return a later case, in which all else than what must stay may be otherwise."""
    (packs, withdrawn), wish, lock, _ = case
    names = slow.names(case) + ["new", "z9"][:chance.randint(0, 2)]
    known, found = {pack[:2] for pack in packs}, list(packs)
    for _ in range(chance.choice([0, 1, 1, 2, 3])):
        mark = (chance.choice(names), chance.choice(VERSIONS)) if names else ("new", ONE)
        if mark not in known:
            make = chance.choice([some_pack, keen_pack])
            found.append(make(chance, mark[0], mark[1], names or ["new"]))
            known.add(mark)
    gone = set(withdrawn) | {pack[:2] for pack in found if chance.random() < 0.1}
    return (tuple(sorted(found, key=lambda pack: pack[:2])), tuple(sorted(gone))), wish, dict(reversed(list(lock.items()))), chance.choice(["newest", "oldest", "steady"])


def later_cases(seed, case, many, most):
    """Return a list of later cases with all their plans, of those that can be listed in little time."""
    chance, found = random.Random(seed), []
    for _ in range(many):
        other = later_case(chance, case)
        if slow.ways(other) <= most:
            found.append((other, slow.plans(other)))
    return found
