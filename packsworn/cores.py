"""Cores: which needs of the wish cannot stand together, and what a derivation blames."""

from packsworn.demands import need_of
from packsworn.judge import axioms_used
from packsworn.plans import lock_copy
from packsworn.solver import first_plan


def with_wish(case, wish):
    """Return the case that is the same but for its wish."""
    registry, _, lock, mode = case
    return registry, wish, lock_copy(lock), mode


def with_wishes(case, lot):
    """Return the case whose wish has just the needs with the indexes of a lot."""
    return with_wish(case, tuple([case[1][index] for index in lot]))


def has_plan(case):
    """Tell whether a case has a plan."""
    return first_plan(case) is not None


def lots_of(many):
    """Return the list of all LOTS of the indexes below a number, smaller ones first, those of one size ascending."""
    lots = [()]
    for index in range(many):
        lots.extend([lot + (index,) for lot in lots])
    return sorted(lots, key=lambda lot: (len(lot), lot))


def lies_in(one, other):
    """Tell whether all members of a lot are members of another one."""
    return all([member in other for member in one])


def standing(case):
    """Return the dict from all LOTS of indexes of the wish to whether the case with these alone has a plan."""
    return {lot: has_plan(with_wishes(case, lot)) for lot in lots_of(len(case[1]))}


def bad_lots(case):
    """Return the ascending list of the LOTS that have no plan, while each one that lies within has one."""
    stands = standing(case)
    bad = [lot for lot in stands if not stands[lot]]
    return sorted([lot for lot in bad if not any([lies_in(other, lot) and other != lot for other in bad])])


def good_lots(case):
    """Return the ascending list of the LOTS that have a plan, while each one in which it lies has none."""
    stands = standing(case)
    able = [lot for lot in stands if stands[lot]]
    return sorted([lot for lot in able if not any([lies_in(lot, other) and other != lot for other in able])])


def dropped_lots(case):
    """Return the ascending list of the LOTS of what some member of good_lots has not."""
    indexes = list(range(len(case[1])))
    return sorted([tuple([index for index in indexes if index not in lot]) for lot in good_lots(case)])


def line_of(name):
    """Return the LINE in the name of an axiom, None if there is none."""
    return name[1] if name[0] in ("range", "feature", "default") else None


def marks_in(case, name):
    """Return the list of the tuples (name, version) of the packs in the name of an axiom that is no loop."""
    if name[0] == "absent":
        return []
    line = line_of(name)
    if line is None:
        return [name[1:3], name[3:5]] if name[0] == "clash" else [name[1:3]]
    marks = [] if line[0] == "wish" else [line[1:3]]
    if name[0] == "default":
        marks.append((need_of(case, line)[0], name[2]))
    return marks


def blamed(case, steps):
    """Return the LOTS of the indexes of the wish and of the packs that stand in the axioms of a derivation."""
    names = [name for name in axioms_used(steps) if name[0] != "loop"]
    lines = [line_of(name) for name in names]
    indexes = [line[1] for line in lines if line is not None and line[0] == "wish"]
    marks = [mark for name in names for mark in marks_in(case, name)]
    return tuple(sorted(set(indexes))), tuple(sorted(set(marks)))
