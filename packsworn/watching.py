"""Watching: what is open of some variables, narrowed by rows as it goes, and given back.

A row is a clause told in numbers: a list of pairs, the number of a variable and the bits of its options. Each row is
watched by two of its variables only, so that most of what goes touches few rows.
"""


def bits_of(options):
    """Return the dict from options to bits of their own."""
    return {option: 1 << at for at, option in enumerate(options)}


class Field:
    """The open options of variables, under rows, with a trail of what went."""

    def __init__(self, options):
        self.variables = sorted(options)
        self.numbers = {variable: number for number, variable in enumerate(self.variables)}
        self.bits = [bits_of(options[variable]) for variable in self.variables]
        self.left = [sum(list(bits.values())) for bits in self.bits]
        self.rows = []
        self.short = []
        self.watching = [[] for _ in self.variables]
        self.trail = []
        self.seen = 0

    def mask(self, number, options):
        """Return the bits of some options of the variable with a number."""
        bits = self.bits[number]
        return sum([bits[option] for option in options])

    def pairs_of(self, clause):
        """Return the row of a clause."""
        numbers = [self.numbers[variable] for variable, _ in clause]
        return [(number, self.mask(number, part[1])) for number, part in zip(numbers, clause)]

    def open_options(self, number):
        """Return the LOT of the options of the variable with a number that are open."""
        bits = self.bits[number]
        return tuple([option for option in bits if bits[option] & self.left[number]])

    def add_row(self, pairs):
        """Add a row; its first two variables are to be open, or to be the last ones that were closed."""
        index = len(self.rows)
        self.rows.append(list(pairs))
        if len(pairs) < 2:
            self.short.append(index)
        else:
            self.watching[pairs[0][0]].append(index)
            self.watching[pairs[1][0]].append(index)
        return index

    def narrow(self, number, mask, index):
        """Close all options of a variable but those of a mask; index is that of the row by which they go, or None."""
        before = self.left[number]
        gone = before ^ (before & mask)
        if gone:
            self.left[number] = before ^ gone
            self.trail.append((number, gone, index))

    def undo(self, many):
        """Give back what went, but for so many parts of the trail."""
        while len(self.trail) > many:
            number, gone, _ = self.trail.pop()
            self.left[number] = self.left[number] | gone
        self.seen = many

    def begin(self, limits):
        """Begin anew with some options of some variables alone, and settle."""
        self.undo(0)
        for variable in sorted(limits):
            number = self.numbers[variable]
            self.narrow(number, self.mask(number, limits[variable]), None)
        for index in self.short:
            row = self.rows[index]
            if not row or not self.left[row[0][0]] & row[0][1]:
                return index
            self.narrow(row[0][0], row[0][1], index)
        return self.settle()

    def settle(self):
        """Let rows narrow until none does; return the index of one that fails, None if none does."""
        while self.seen < len(self.trail):
            failed = self.look(self.trail[self.seen][0])
            if failed is not None:
                return failed
            self.seen += 1
        return None

    def open_place(self, row):
        """Return the place of an open variable of a row that does not watch it, 0 if there is none."""
        for place in range(2, len(row)):
            if self.left[row[place][0]] & row[place][1]:
                return place
        return 0

    def look(self, number):
        """Look at the rows that a variable watches; return the index of one that fails, None if none does."""
        watched = list(self.watching[number])
        stay = []
        failed = None
        for at, index in enumerate(watched):
            row = self.rows[index]
            if row[0][0] == number:
                row[0], row[1] = row[1], row[0]
            if self.left[number] & row[1][1]:
                stay.append(index)
                continue
            place = self.open_place(row)
            if place > 0:
                row[1], row[place] = row[place], row[1]
                self.watching[row[1][0]].append(index)
                continue
            stay.append(index)
            other, mask = row[0]
            if not self.left[other] & mask:
                failed = index
                stay.extend(watched[at + 1:])
                break
            self.narrow(other, mask, index)
        self.watching[number] = stay
        return failed
