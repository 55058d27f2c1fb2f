"""The solver: the first plan with a paper that it is, or a paper that there is none."""

from packsworn.axioms import axiom_grounds, clause_on, loop_on, plain_axioms_on
from packsworn.blaming import Writer, traced
from packsworn.forms import is_row
from packsworn.judge import is_first_paper, is_none_paper, passed, trimmed
from packsworn.liking import liked_options, row_of
from packsworn.narrowing import limits_of_choices
from packsworn.plans import is_plan
from packsworn.reach import net_of, ranks_by
from packsworn.watching import Field


def conditions_by_goal(rows):
    """Return the dict from the things of supports to the lists of their conditions."""
    found = {}
    for conditions, goal in rows:
        found.setdefault(goal, []).append(conditions)
    return found


def leading_to(by_goal, apart, thing):
    """Return the LOT of a thing and those of some others from which supports lead to it."""
    found = {thing: True}
    row = [thing]
    at = 0
    while at < len(row):
        ways = by_goal.get(row[at], [])
        for conditions in ways:
            for other, _ in conditions:
                if other in apart and other not in found:
                    found[other] = True
                    row.append(other)
        at += 1
    return tuple(sorted(found))


class Search:
    """A search along the row for the first plan of a case; what it has learned stays for further ones."""

    def __init__(self, case):
        self.grounds = axiom_grounds(case)
        self.field = Field(self.grounds["options"])
        self.writer = Writer()
        for axiom in plain_axioms_on(self.grounds):
            self.field.add_row(self.field.pairs_of(clause_on(self.grounds, axiom)))
            self.writer.add_axiom_row(axiom)
        self.row = []
        self.wanted = {}
        for name in row_of(case):
            number = self.field.numbers[(name,)]
            self.row.append(number)
            self.wanted[number] = [self.field.bits[number][option] for option in liked_options(case, name)]
        self.net = net_of(self.grounds["supports"])
        self.by_goal = conditions_by_goal(self.grounds["supports"])
        self.chosen = []

    def choose(self):
        """Choose the option liked best of the first name of the row that has several; tell whether there is one."""
        for number in self.row:
            left = self.field.left[number]
            bits = [bit for bit in self.wanted[number] if bit & left]
            if len(bits) > 1:
                self.chosen.append((len(self.field.trail), number))
                self.field.narrow(number, bits[0], None)
                return True
        return False

    def plan(self):
        """Return the dict of the form of a plan that has the names chosen, and the features that cannot be off."""
        versions, features = {}, {}
        for variable, number in self.field.numbers.items():
            options = self.field.open_options(number)
            if len(variable) == 1:
                features[variable[0]] = []
                versions[variable[0]] = options[0]
            elif options == (True,):
                features[variable[0]].append(variable[1])
        return {name: (versions[name], tuple(features[name])) for name in versions if versions[name] is not None}

    def broken_loop(self, plan):
        """Return the name of a loop that a plan breaks by things that nothing reaches, None if there is none."""
        reached = ranks_by(self.net, {name: plan[name][0] for name in plan})
        apart = {thing: True for thing in self.field.variables if thing not in reached}
        names = [self.field.variables[number] for number in self.row]
        given = [thing for thing in names if thing in apart and thing[0] in plan]
        given.extend([(name, feature) for name in plan for feature in plan[name][1] if (name, feature) in apart])
        if not given:
            return None
        return loop_on(self.grounds, plan, leading_to(self.by_goal, apart, given[0]), given[0])

    def learn(self, masks, place):
        """Go back to where the clause of a step, as masks, first narrows; return the row that fails then, or None."""
        levels = {number: level for level, (_, number) in enumerate(self.chosen)}
        pairs = [(levels.get(number, -1), number) for number in masks]
        pairs = sorted(pairs, reverse=True)
        keep = pairs[1][0] + 1 if len(pairs) > 1 else 0
        self.field.undo(self.chosen[keep][0])
        self.chosen = self.chosen[:keep]
        index = self.field.add_row([(number, masks[number]) for _, number in pairs])
        self.writer.add_step_row(place)
        self.field.narrow(pairs[0][1], masks[pairs[0][1]], index)
        return self.field.settle()

    def blamed(self, masks, place):
        """Return the clause, as masks, and its step, that come of one that fails, and fail on what was chosen."""
        return traced(self.field, self.writer, masks, place, {}, len(self.field.trail))

    def failing(self, failed):
        """Return what comes of a row that fails, or of a loop where no row does; None if there is a plan."""
        if failed is not None:
            return self.blamed(dict(self.field.rows[failed]), self.writer.place_of_row(failed))
        loop = self.broken_loop(self.plan())
        if loop is None:
            return None
        return self.blamed(dict(self.field.pairs_of(clause_on(self.grounds, loop))), self.writer.axiom(loop))

    def run(self, limits):
        """Search under limits, the options that some variables may have.

        Return None if there is a plan, the field being that of the first one, otherwise the index of a step whose
        clause has no option within the limits.
        """
        self.chosen = []
        failed = self.field.begin(limits)
        while True:
            if failed is None and self.choose():
                failed = self.field.settle()
                continue
            found = self.failing(failed)
            if found is None:
                return None
            masks, place = found
            if not any([number in masks for _, number in self.chosen]):
                return place
            failed = self.learn(masks, place)

    def lines_to(self, place):
        """Return the DERIVATION that ends in a step."""
        return trimmed(self.writer.steps, [place])[0]

    def mark(self, name, option, ahead):
        """Return the index of a step that rules out an option of a name behind the options of the names ahead of it."""
        number = self.field.numbers[(name,)]
        bit = self.field.bits[number][option]
        trail = self.field.trail
        end = [at for at, (other, gone, _) in enumerate(trail) if other == number and gone & bit][0]
        index = trail[end][2]
        spared = {self.field.numbers[(other,)]: True for other in ahead + (name,)}
        masks, place = dict(self.field.rows[index]), self.writer.place_of_row(index)
        return traced(self.field, self.writer, masks, place, spared, end)[1]


def going_on(case, choices):
    """Return ("plan", plan) with the best plan that keeps choices, or ("none", lines) with why there is none."""
    search = Search(case)
    place = search.run(limits_of_choices(choices))
    if place is None:
        return "plan", search.plan()
    return "none", search.lines_to(place)


def first_plan(case):
    """Return the FIRST plan of a case, None if there is none."""
    word, found = going_on(case, {})
    return found if word == "plan" else None


def first_paper(case, search, plan):
    """Return a FIRST PAPER of the plan that a search has found."""
    row = row_of(case)
    ahead = {name: row[:at] for at, name in enumerate(row)}
    marks = [search.mark(name, option, ahead[name]) for name, option in passed(case, plan)]
    return trimmed(search.writer.steps, marks)


def answer(case):
    """Return ("plan", plan, paper) with the FIRST plan, or ("none", paper), with a paper that it is so."""
    search = Search(case)
    place = search.run({})
    if place is not None:
        return "none", search.lines_to(place)
    plan = search.plan()
    return "plan", plan, first_paper(case, search, plan)


def is_answer(case, thing):
    """Tell whether any value is what answer may return."""
    if is_row(thing, 2) and isinstance(thing[0], str) and thing[0] == "none":
        return is_none_paper(case, thing[1])
    if is_row(thing, 3) and isinstance(thing[0], str) and thing[0] == "plan":
        return is_plan(case, thing[1]) and is_first_paper(case, thing[1], thing[2])
    return False
