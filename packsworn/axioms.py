"""Axioms: clauses that follow from one line of a case, or from things that can only be reached from outside."""

from packsworn.clauses import all_options, gives, is_option, made_clause, option_order
from packsworn.demands import conditions_of, lines_of, need_of, supports
from packsworn.forms import is_all_of, is_ascending, is_row
from packsworn.plans import held_version
from packsworn.ranges import is_in
from packsworn.reach import is_thing
from packsworn.registry import feature_of, paths_clash
from packsworn.versions import is_integer, is_version

# What stands behind the first word of the name of an axiom, and of a line.
FORMS = {
    "range": ("line",), "feature": ("line", "word"), "default": ("line", "version", "word"),
    "also": ("word", "version", "word", "word"), "known": ("word", "version", "word"), "absent": ("word", "word"),
    "peer": ("word", "version", "index"), "bar": ("word", "version", "index"),
    "clash": ("word", "version", "word", "version"), "withdrawn": ("word", "version"),
    "loop": ("things", "thing", "picks"),
}
LINE_FORMS = {
    "wish": ("index",), "need": ("word", "version", "index"), "extra": ("word", "version", "word", "index"),
}


def axiom_grounds(case):
    """Return what is asked of a case for each of its axioms anew."""
    lines = lines_of(case)
    return {
        "options": all_options(case),
        "packs": {pack[:2]: pack for pack in case[0][0]},
        "lines": {line: (conditions_of(line), need_of(case, line)) for line in lines},
        "withdrawn": {mark: True for mark in case[0][1]},
        "lock": case[2],
        "supports": supports(case),
    }


def is_pick(value):
    """Tell whether any value has the form of a variable with an option."""
    return is_row(value, 2) and is_thing(value[0]) and is_option(value[1])


def is_of_kind(kind, value):
    """Tell whether any value has the form that a kind of parts of names has."""
    if kind == "line":
        return is_line_form(value)
    if kind == "version":
        return is_version(value)
    if kind == "index":
        return is_integer(value)
    if kind == "thing":
        return is_thing(value)
    if kind == "things":
        return is_all_of(value, is_thing)
    if kind == "picks":
        return is_all_of(value, is_pick)
    return isinstance(value, str)


def first_word(value):
    """Return the string with which any value begins, if it is a tuple that begins with one, otherwise None."""
    if not isinstance(value, tuple) or not value or not isinstance(value[0], str):
        return None
    return value[0]


def is_told(kinds, value):
    """Tell whether a tuple has, behind its first word, parts of just these kinds; kinds may be None."""
    if kinds is None or len(value) != len(kinds) + 1:
        return False
    return all([is_of_kind(kind, part) for kind, part in zip(kinds, value[1:])])


def is_line_form(value):
    """Tell whether any value has the form of a LINE."""
    return is_told(LINE_FORMS.get(first_word(value)), value)


def is_axiom_form(value):
    """Tell whether any value has the form of the name of an axiom."""
    return is_told(FORMS.get(first_word(value)), value)


def denied(grounds, condition):
    """Return the row that a condition is denied."""
    variable, option = condition
    return variable, tuple([other for other in grounds["options"][variable] if other != option])


def all_denied(grounds, line):
    """Return the rows that the conditions of a line are denied."""
    return [denied(grounds, condition) for condition in grounds["lines"][line][0]]


def pack_denied(grounds, name, version):
    """Return the row that a pack is not chosen."""
    return denied(grounds, ((name,), version))


def range_met(grounds, name, one):
    """Return the row that a name has one of its versions that are in a range."""
    options = grounds["options"][(name,)]
    return (name,), tuple([option for option in options if option is not None and is_in(option, one)])


def range_rows(grounds, parts):
    """Return the rows of a "range" axiom, None if there is none of this name."""
    line = parts[0]
    if line not in grounds["lines"]:
        return None
    need = grounds["lines"][line][1]
    return all_denied(grounds, line) + [range_met(grounds, need[0], need[1])]


def feature_rows(grounds, parts):
    """Return the rows of a "feature" axiom, None if there is none of this name."""
    line, feature = parts
    if line not in grounds["lines"]:
        return None
    need = grounds["lines"][line][1]
    if feature not in need[2]:
        return None
    return all_denied(grounds, line) + [((need[0], feature), (True,))]


def default_rows(grounds, parts):
    """Return the rows of a "default" axiom, None if there is none of this name."""
    line, version, feature = parts
    if line not in grounds["lines"]:
        return None
    need = grounds["lines"][line][1]
    name, bare = need[0], need[3]
    pack = grounds["packs"].get((name, version))
    if bare or pack is None or feature not in pack[6]:
        return None
    return all_denied(grounds, line) + [pack_denied(grounds, name, version), ((name, feature), (True,))]


def also_rows(grounds, parts):
    """Return the rows of an "also" axiom, None if there is none of this name."""
    name, version, feature, other = parts
    pack = grounds["packs"].get((name, version))
    told = None if pack is None else feature_of(pack, feature)
    if told is None or other not in told[1]:
        return None
    return [pack_denied(grounds, name, version), ((name, feature), (False,)), ((name, other), (True,))]


def known_rows(grounds, parts):
    """Return the rows of a "known" axiom, None if there is none of this name."""
    name, version, feature = parts
    pack = grounds["packs"].get((name, version))
    if pack is None or (name, feature) not in grounds["options"] or feature_of(pack, feature) is not None:
        return None
    return [pack_denied(grounds, name, version), ((name, feature), (False,))]


def absent_rows(grounds, parts):
    """Return the rows of an "absent" axiom, None if there is none of this name."""
    name, feature = parts
    if (name, feature) not in grounds["options"]:
        return None
    return [denied(grounds, ((name,), None)), ((name, feature), (False,))]


def peer_rows(grounds, parts):
    """Return the rows of a "peer" axiom, None if there is none of this name."""
    name, version, index = parts
    pack = grounds["packs"].get((name, version))
    if pack is None or not 0 <= index < len(pack[3]):
        return None
    peer, one = pack[3][index]
    return [pack_denied(grounds, name, version), range_met(grounds, peer, one)]


def bar_rows(grounds, parts):
    """Return the rows of a "bar" axiom, None if there is none of this name."""
    name, version, index = parts
    pack = grounds["packs"].get((name, version))
    if pack is None or not 0 <= index < len(pack[4]):
        return None
    bar, one = pack[4][index]
    free = [option for option in grounds["options"][(bar,)] if option is None or not is_in(option, one)]
    return [pack_denied(grounds, name, version), ((bar,), tuple(free))]


def clash_rows(grounds, parts):
    """Return the rows of a "clash" axiom, None if there is none of this name."""
    name, version, other, its = parts
    one, two = grounds["packs"].get((name, version)), grounds["packs"].get((other, its))
    if one is None or two is None or not name < other or not paths_clash(one, two):
        return None
    return [pack_denied(grounds, name, version), pack_denied(grounds, other, its)]


def withdrawn_rows(grounds, parts):
    """Return the rows of a "withdrawn" axiom, None if there is none of this name."""
    name, version = parts
    if (name, version) not in grounds["withdrawn"] or held_version(grounds["lock"], name) == version:
        return None
    return [pack_denied(grounds, name, version)]


def outside_conditions(grounds, things):
    """Return the list of the conditions of those supports of some things that do not lean on such things."""
    members = {thing: True for thing in things}
    rows = [conditions for conditions, goal in grounds["supports"] if goal in members]
    return [conditions for conditions in rows if not any([part[0] in members for part in conditions])]


def are_picks(grounds, picks):
    """Tell whether values of the form of picks are a LOT of variables with options of theirs."""
    options = grounds["options"]
    if not all([variable in options and option in options[variable] for variable, option in picks]):
        return False
    return is_ascending([(variable, option_order(option)) for variable, option in picks])


def loop_rows(grounds, parts):
    """Return the rows of a "loop" axiom, None if there is none of this name."""
    things, thing, picks = parts
    if thing not in things or not all([part in grounds["options"] for part in things]) or not is_ascending(things):
        return None
    if not are_picks(grounds, picks):
        return None
    picked = {pick: True for pick in picks}
    for conditions in outside_conditions(grounds, things):
        if not any([condition in picked for condition in conditions]):
            return None
    return [(thing, grounds["options"][thing][:1])] + [(variable, (option,)) for variable, option in picks]


ROWS = {
    "range": range_rows, "feature": feature_rows, "default": default_rows, "also": also_rows, "known": known_rows,
    "absent": absent_rows, "peer": peer_rows, "bar": bar_rows, "clash": clash_rows, "withdrawn": withdrawn_rows,
    "loop": loop_rows,
}


def clause_on(grounds, name):
    """Return the clause of the AXIOM of a name that has the form of one, None if there is none."""
    make = ROWS[name[0]]
    rows = make(grounds, name[1:])
    return None if rows is None else made_clause(rows)


def axiom_clause(case, thing):
    """Return the clause of the AXIOM that any value names, None if it names none."""
    if not is_axiom_form(thing):
        return None
    return clause_on(axiom_grounds(case), thing)


def axioms_of_lines(grounds):
    """Return the list of the names of the axioms that follow from lines."""
    found = []
    for line, (_, need) in grounds["lines"].items():
        name, _, features, bare = need
        found.append(("range", line))
        found.extend([("feature", line, feature) for feature in features])
        if not bare:
            versions = [option for option in grounds["options"][(name,)] if option is not None]
            found.extend([("default", line, version, feature) for version in versions
                          for feature in grounds["packs"][(name, version)][6]])
    return found


def axioms_of_pack(grounds, pack):
    """Return the list of the names of the axioms that follow from a pack without its needs and extras."""
    mark, told = pack[:2], pack[5]
    found = [("also",) + mark + (row[0], other) for row in told for other in row[1]]
    found.extend([("peer",) + mark + (index,) for index in range(len(pack[3]))])
    found.extend([("bar",) + mark + (index,) for index in range(len(pack[4]))])
    if mark in grounds["withdrawn"] and held_version(grounds["lock"], pack[0]) != pack[1]:
        found.append(("withdrawn",) + mark)
    return found


def axioms_of_features(grounds):
    """Return the list of the names of the axioms that deny a feature."""
    packs = list(grounds["packs"].values())
    found = []
    for variable in grounds["options"]:
        if len(variable) == 2:
            name, feature = variable
            found.append(("absent", name, feature))
            found.extend([("known", name, pack[1], feature) for pack in packs
                          if pack[0] == name and feature_of(pack, feature) is None])
    return found


def axioms_of_paths(grounds):
    """Return the list of the names of the axioms that two packs clash."""
    packs = [pack for pack in list(grounds["packs"].values()) if pack[7]]
    return [("clash",) + one[:2] + two[:2] for one in packs for two in packs
            if one[0] < two[0] and paths_clash(one, two)]


def plain_axioms_on(grounds):
    """Return the ascending list of the names of all axioms but loops."""
    found = axioms_of_lines(grounds) + axioms_of_features(grounds) + axioms_of_paths(grounds)
    for pack in list(grounds["packs"].values()):
        found.extend(axioms_of_pack(grounds, pack))
    return sorted(found)


def plain_axioms(case):
    """Return the ascending list of the names of all axioms of a case but loops."""
    return plain_axioms_on(axiom_grounds(case))


def first_not_given(plan, conditions):
    """Return the first of some conditions that a plan does not give, None if it gives all."""
    for variable, option in conditions:
        if gives(plan, variable) != option:
            return (variable, option)
    return None


def loop_on(grounds, plan, things, thing):
    """Return the name of the loop that a plan breaks by giving a thing, None if a plan may give it."""
    picks = [first_not_given(plan, conditions) for conditions in outside_conditions(grounds, things)]
    if None in picks:
        return None
    return ("loop", things, thing, tuple(sorted(set(picks))))


def loop_for(case, plan, things, thing):
    """Return the name of the loop of some things for a thing, by what a plan does not give; None if it gives all."""
    return loop_on(axiom_grounds(case), plan, things, thing)
