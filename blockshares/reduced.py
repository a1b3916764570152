"""Rows of integers: whether one more is a sum of fractions of them, or else numbers that tell it apart."""

from blockshares.values import shortened


class Reduced:
    """Lines that span what the rows span; each has a lead, a place at which all other lines have 0."""

    def __init__(self, rows, wide):
        self.wide = wide
        self.many = len(rows)
        self.lines = []
        self.leads = []
        # What each line has at its lead: so all numbers stay integers, as short as determinants of the rows are.
        self.divisor = 1
        for at, row in enumerate(rows):
            # Behind a line stands how many of which rows it is.
            self.take(row + [1 if k == at else 0 for k in range(len(rows))])

    def take(self, row):
        """Makes one more line of a row, if it is no sum of the lines."""
        left = self.left_of(row)
        lead = self.first_place(left)
        if lead is None:
            return
        if left[lead] < 0:
            left = [-number for number in left]
        self.lines = [without(line, left, lead, self.divisor) for line in self.lines] + [left]
        self.leads.append(lead)
        self.divisor = left[lead]

    def left_of(self, row):
        """A row, times the divisor, less so much of the lines that it has 0 at their leads."""
        found = [number * self.divisor for number in row]
        for line, lead in zip(self.lines, self.leads):
            if row[lead] != 0:
                found = [number - row[lead] * part for number, part in zip(found, line)]
        return found

    def first_place(self, left):
        """The first place that is not 0, leaving out what stands behind a line, or None."""
        for place in range(self.wide):
            if left[place] != 0:
                return place
        return None

    def sum_for(self, row):
        """Numbers for the rows and a divisor, such that so many of them are divisor times a row; None if none are."""
        left = self.left_of(row + [0] * self.many)
        if self.first_place(left) is not None:
            return None
        found = shortened([-number for number in left[self.wide:]] + [self.divisor])
        return found[:-1], found[-1]

    def apart(self, row):
        """Numbers whose sum with each of the rows is 0, and with this row is not, or None if there are none."""
        place = self.first_place(self.left_of(row + [0] * self.many))
        if place is None:
            return None
        found = [0] * self.wide
        found[place] = self.divisor
        for line, lead in zip(self.lines, self.leads):
            found[lead] = -line[place]
        return shortened(found)


def without(line, left, lead, divisor):
    """A line less so much of a new one that it has 0 at the lead of that one."""
    return [(number * left[lead] - line[lead] * part) // divisor for number, part in zip(line, left)]
