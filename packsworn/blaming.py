"""Blame: what a failing comes from, led back along the trail to what was chosen."""

from packsworn.axioms import axiom_grounds, clause_on
from packsworn.narrowing import limits_of_choices
from packsworn.watching import Field


class Writer:
    """Writes the steps of a derivation, those of each axiom once; rows of a field have axioms or steps behind them."""

    def __init__(self):
        self.steps = []
        self.names = []
        self.places = []
        self.written = {}

    def add_axiom_row(self, name):
        """Tell that the next row of the field is that of an axiom."""
        self.names.append(name)
        self.places.append(None)

    def add_step_row(self, place):
        """Tell that the next row of the field is that of the clause of a step."""
        self.names.append(None)
        self.places.append(place)

    def axiom(self, name):
        """Return the index of the step of an axiom."""
        if name not in self.written:
            self.written[name] = len(self.steps)
            self.steps.append(("axiom", name))
        return self.written[name]

    def place_of_row(self, index):
        """Return the index of the step that has the clause of a row."""
        if self.places[index] is None:
            self.places[index] = self.axiom(self.names[index])
        return self.places[index]

    def joint(self, one, other, variable):
        """Return the index of the step that joins two others on a variable."""
        self.steps.append(("join", one, other, variable))
        return len(self.steps) - 1


def joined_row(masks, row, number):
    """Return the dict from variables to bits of the join of such a dict and a row, on a variable."""
    found = {variable: masks[variable] for variable in masks}
    for other, mask in row:
        if other == number:
            found[other] = masks[other] & mask
        else:
            found[other] = found.get(other, 0) | mask
    return {variable: found[variable] for variable in found if found[variable]}


def traced(field, writer, masks, place, spared, end):
    """Return the clause, as masks, and its step to which one comes back along the trail from a place of it.

    What took options of the clause is joined to it; what took options of the variables that are spared is not.
    """
    for number, gone, index in reversed(field.trail[:end]):
        if index is not None and masks.get(number, 0) & gone and number not in spared:
            place = writer.joint(place, writer.place_of_row(index), field.variables[number])
            masks = joined_row(masks, field.rows[index], number)
    return masks, place


def blame(case, choices, trail, failed):
    """Return a DERIVATION whose last clause FAILS ON choices, of the trail and the axiom that fails behind it."""
    grounds = axiom_grounds(case)
    field, writer = Field(grounds["options"]), Writer()
    field.begin(limits_of_choices(choices))
    for variable, name in trail:
        row = field.pairs_of(clause_on(grounds, name))
        index = field.add_row(row)
        writer.add_axiom_row(name)
        field.narrow(field.numbers[variable], dict(row)[field.numbers[variable]], index)
    masks = dict(field.pairs_of(clause_on(grounds, failed)))
    traced(field, writer, masks, writer.axiom(failed), {}, len(field.trail))
    return tuple(writer.steps)
