"""Derivations in words: each step told in a line, and read again."""

from packsworn.axioms import FORMS, LINE_FORMS, axiom_grounds
from packsworn.errors import NoText, Wrong
from packsworn.forms import is_case
from packsworn.judge import clause_of_step, clauses_of
from packsworn.versions import FIGURES, show_version, version_told

OPTION_WORDS = {"absent": None, "off": False, "on": True}
# Longer figures are never shown: no step, line or note has such an index.
MOST_FIGURES = 9


def show_variable(variable):
    """Return NAME or NAME+FEATURE."""
    return "+".join(variable)


def show_option(option):
    """Return the word of an option."""
    if option is None:
        return "absent"
    if option is True:
        return "on"
    if option is False:
        return "off"
    return show_version(option)


def show_clause(clause):
    """Return what a clause tells."""
    if clause == ():
        return "nothing"
    told = [(show_variable(variable), [show_option(option) for option in options]) for variable, options in clause]
    return " ; or ".join([name + " is " + " or ".join(words) for name, words in told])


def show_pick(pick):
    """Return the word of a variable with an option."""
    return show_variable(pick[0]) + "=" + show_option(pick[1])


def show_part(kind, part):
    """Return the words of a part of the name of an axiom."""
    if kind == "line":
        return " ".join([part[0]] + [show_part(its, one) for its, one in zip(LINE_FORMS[part[0]], part[1:])])
    if kind == "version":
        return show_version(part)
    if kind == "index":
        return str(part)
    if kind == "thing":
        return show_variable(part)
    if kind == "things":
        return " ".join([show_variable(variable) for variable in part])
    if kind == "picks":
        return " ".join([show_pick(pick) for pick in part]) if part else "never"
    return part


def show_axiom(name):
    """Return the words of the name of an axiom."""
    parts = [show_part(kind, part) for kind, part in zip(FORMS[name[0]], name[1:])]
    return name[0] + " " + (" ; " if name[0] == "loop" else " ").join(parts)


def show_reason(step):
    """Return the reason of a step."""
    if step[0] == "axiom":
        return show_axiom(step[1])
    return f"join {step[1]} and {step[2]} at {show_variable(step[3])}"


def show_step(index, clause, step):
    """Return the line of a step."""
    return f"{index} : {show_clause(clause)} <- {show_reason(step)}"


def tell(case, steps):
    """Return the lines of the steps of a DERIVATION."""
    rows = list(zip(clauses_of(case, steps), steps))
    return "\n".join([show_step(index, clause, step) for index, (clause, step) in enumerate(rows)])


def number_told(word):
    """Return the integer that figures tell, None if a word is none, or a longer one than is ever shown."""
    if not 1 <= len(word) <= MOST_FIGURES or not all([sign in FIGURES for sign in word]):
        return None
    return int(word)


def variable_told(word):
    """Return the variable that a word tells."""
    return tuple(word.split("+"))


def pick_told(word):
    """Return the variable with an option that a word tells."""
    variable, _, option = word.partition("=")
    if option in OPTION_WORDS:
        return variable_told(variable), OPTION_WORDS[option]
    return variable_told(variable), version_told(option)


def many_words(kind, words):
    """Return the number of words of a part that stands ahead of words."""
    if kind != "line" or not words:
        return 1
    return 1 + len(LINE_FORMS.get(words[0], ()))


def part_told(kind, words):
    """Return the part of a kind that just as many words as it has tell."""
    if kind == "line":
        return (words[0],) + parts_told(LINE_FORMS.get(words[0], ()), words[1:])
    if kind == "version":
        return version_told(words[0])
    if kind == "index":
        return number_told(words[0])
    return words[0]


def parts_told(kinds, words):
    """Return the tuple of parts of some kinds that words tell, None if there are fewer words, or more."""
    parts = []
    for kind in kinds:
        many = many_words(kind, words)
        if len(words) < many:
            return None
        parts.append(part_told(kind, words[:many]))
        words = words[many:]
    return None if words else tuple(parts)


def loop_told(words):
    """Return the parts of the name of a loop that words tell, None if they tell none."""
    parts = " ".join(words).split(" ; ")
    if len(parts) != 3:
        return None
    things = tuple([variable_told(word) for word in parts[0].split(" ")])
    picks = [] if parts[2] == "never" else [pick_told(word) for word in parts[2].split(" ")]
    return things, variable_told(parts[1]), tuple(picks)


def axiom_told(words):
    """Return what may be the name of an axiom that words tell, None if they tell none."""
    if words[0] not in FORMS:
        return None
    parts = loop_told(words[1:]) if words[0] == "loop" else parts_told(FORMS[words[0]], words[1:])
    return None if parts is None else (words[0],) + parts


def step_told(line):
    """Return what may be the step that a line tells, by its reason."""
    words = line.partition(" <- ")[2].split(" ")
    if words[0] == "join" and len(words) == 6:
        return ("join", number_told(words[1]), number_told(words[3]), variable_told(words[5]))
    return ("axiom", axiom_told(words))


def read_told(case, text):
    """Return the DERIVATION whose tell is a text; raise NoText(line) if there is none."""
    if not is_case(case):
        raise Wrong(0)
    if not isinstance(text, str):
        raise Wrong(1)
    grounds = axiom_grounds(case)
    steps, clauses = [], []
    lines = text.split("\n") if text else []
    for index, line in enumerate(lines):
        step = step_told(line)
        clause = clause_of_step(grounds, clauses, step)
        # What the reason tells is shown again, so that nothing but the very line is taken.
        if clause is None or show_step(index, clause, step) != line:
            raise NoText(index)
        steps.append(step)
        clauses.append(clause)
    return tuple(steps)
