"""Sizes from 0 on whose answers lie between ends: whether there are such, and how far an answer goes in them.

This is the simplex method. A tableau tells some things by the others; all things are sizes, or answers to rows of
numbers. Each of the others stands at one of its ends. In each step one of them moves to its other end, or until one
that is told comes to an end and changes places with it. All numbers are integers over one divisor: so they stay as
short as determinants of the rows are.
"""

from blockshares.values import NOTHING, fraction, shortened


class Step:
    """A move of the thing of a column, up or down, until a line, or the thing itself (None), comes to an end."""

    def __init__(self, column, up, row, end, room, speed):
        self.column = column
        self.up = up
        self.row = row
        # None if nothing comes to an end.
        self.end = end
        # The thing moves by room over speed.
        self.room = room
        self.speed = speed


class Tableau:
    """The sizes have the first numbers, the answers the next ones, and the aim, where there is one, the last."""

    def __init__(self, many, rows, ends):
        self.many = many
        self.ends = list(ends)
        # The ends of the answers do not hold before the tableau is settled.
        self.lows = [0] * many + [None] * len(rows)
        self.highs = [None] * many + [None] * len(rows)
        # The things that are told, one for each line, and the others, one for each column.
        self.inner = [many + at for at in range(len(rows))]
        self.outer = list(range(many))
        # Where the others stand: at ends, so at integers.
        self.stands = [0] * many
        # A thing that is told is the sum of its line times the others, over the divisor.
        self.lines = [list(row) for row in rows]
        self.divisor = 1

    def twin(self):
        """The same tableau, as one of its own."""
        other = Tableau(self.many, [], self.ends)
        other.lows = list(self.lows)
        other.highs = list(self.highs)
        other.inner = list(self.inner)
        other.outer = list(self.outer)
        other.stands = list(self.stands)
        other.lines = list(self.lines)
        other.divisor = self.divisor
        return other

    def loosened(self, at):
        """A twin in which one of the answers has no ends any more."""
        other = self.twin()
        other.lows[self.many + at] = None
        other.highs[self.many + at] = None
        return other

    def aimed(self, numbers):
        """A twin with an aim: one more answer, without ends, to a row of numbers."""
        line = [numbers[thing] * self.divisor if thing < self.many else 0 for thing in self.outer]
        for told, thing in zip(self.lines, self.inner):
            if thing < self.many and numbers[thing] != 0:
                line = [one + numbers[thing] * part for one, part in zip(line, told)]
        other = self.twin()
        other.inner.append(len(self.lows))
        other.lines.append(line)
        other.lows.append(None)
        other.highs.append(None)
        return other

    def settle(self):
        """Brings all answers between their ends: None, or weights of them that show that they can not be there."""
        for at, (low, high) in enumerate(self.ends):
            thing = self.many + at
            # As answers without ends do not change places, this one is still told by its own line.
            top = self.tops()[at]
            if low is not None and top < low * self.divisor:
                self.highs[thing] = low
                self.climb(at, 1)
            elif high is not None and top > high * self.divisor:
                self.lows[thing] = high
                self.climb(at, -1)
            if self.inner[at] == thing:
                top = self.tops()[at]
                if low is not None and top < low * self.divisor:
                    return self.refusal(at, 1)
                if high is not None and top > high * self.divisor:
                    return self.refusal(at, -1)
            self.lows[thing], self.highs[thing] = low, high
        return None

    def rise(self):
        """Makes the aim as great as it can be: None, or sizes, with which it grows, that can be added for ever."""
        return self.climb(len(self.lines) - 1, 1)

    def climb(self, row, sign):
        """Makes the thing of a line greater, or smaller if sign is -1, until nothing helps or it comes to an end.

        It returns None, or how the sizes grow if it has no end.
        """
        thing = self.inner[row]
        while self.inner[row] == thing:
            step = self.best_step(self.lines[row], sign)
            if step is None:
                return None
            if step.end is None:
                return self.way(step.column, step.up)
            if step.row is None:
                self.stands[step.column] = step.end
            else:
                self.exchange(step.row, step.column, step.end)
        return None

    def exchange(self, row, column, end):
        """The thing of a line comes to one of its ends, and changes places with that of a column."""
        sign = 1 if self.lines[row][column] > 0 else -1
        lead = [sign * part for part in self.lines[row]]
        lines = [cleared(line, lead, column, sign, self.divisor) for line in self.lines]
        lines[row] = [-part for part in lead]
        lines[row][column] = sign * self.divisor
        self.lines = lines
        self.divisor = lead[column]
        self.inner[row], self.outer[column] = self.outer[column], self.inner[row]
        self.stands[column] = end

    def tops(self):
        """How much the things are that are told, times the divisor."""
        moved = [column for column, stand in enumerate(self.stands) if stand != 0]
        return [sum([line[column] * self.stands[column] for column in moved]) for line in self.lines]

    def best_step(self, line, sign):
        """The step by which a line becomes greatest, or smallest if sign is -1, or None if no one helps.

        Of several that do as much it is that of the first thing: where all are of no length, those of other things
        could go round for ever (Bland's rule).
        """
        rooms = self.rooms()
        found, most = None, 0
        for column, part in enumerate(line):
            up = part * sign > 0
            if part != 0 and self.stands[column] != self.end_of(self.outer[column], up):
                step = self.step_of(column, up, rooms)
                if step.end is None:
                    return step
                gain = step.room * abs(part)
                more = 1 if found is None else gain * found.speed - most * step.speed
                if more > 0 or (more == 0 and self.outer[column] < self.outer[found.column]):
                    found, most = step, gain
        return found

    def rooms(self):
        """For each line the pair of how far its thing is from its low end and from its high one, times the divisor."""
        found = []
        for top, thing in zip(self.tops(), self.inner):
            low, high = self.lows[thing], self.highs[thing]
            below = None if low is None else top - low * self.divisor
            above = None if high is None else high * self.divisor - top
            found.append((below, above))
        return found

    def step_of(self, column, up, rooms):
        """How far the thing of a column can move up or down; of several lines that stop it that of the first thing."""
        stopped, end, room, speed = None, self.end_of(self.outer[column], up), 0, 1
        if end is not None:
            room = abs(end - self.stands[column])
        for row, line in enumerate(self.lines):
            part = line[column]
            rises = part > 0 if up else part < 0
            left = rooms[row][1] if rises else rooms[row][0]
            if part != 0 and left is not None:
                sooner = 1 if end is None else room * abs(part) - left * speed
                if sooner > 0 or (sooner == 0 and stopped is not None and self.inner[row] < self.inner[stopped]):
                    stopped, room, speed = row, left, abs(part)
                    end = self.end_of(self.inner[row], rises)
        return Step(column, up, stopped, end, room, speed)

    def end_of(self, thing, high):
        """The high or the low end of a thing, or None."""
        return self.highs[thing] if high else self.lows[thing]

    def way(self, column, up):
        """How fast the sizes grow if the thing of a column moves up or down."""
        found = [0] * self.many
        if self.outer[column] < self.many:
            found[self.outer[column]] = self.divisor
        for line, thing in zip(self.lines, self.inner):
            if thing < self.many:
                found[thing] = line[column] if up else -line[column]
        return shortened(found)

    def point(self):
        """The sizes, as fractions."""
        found = [NOTHING] * self.many
        for top, thing in zip(self.tops(), self.inner):
            if thing < self.many:
                found[thing] = fraction(top, self.divisor)
        return found

    def height(self):
        """How great the aim is, as a fraction."""
        return fraction(self.tops()[-1], self.divisor)

    def refusal(self, row, sign):
        """Weights of the answers that show that the thing of a line can not be greater, or smaller if sign is -1."""
        found = self.taken_out(self.lines[row], sign)
        found[self.inner[row] - self.many] = sign * self.divisor
        return shortened(found)

    def proof(self):
        """Weights of the answers that show that the aim can not be greater, and how many times it stands beside."""
        found = shortened(self.taken_out(self.lines[-1], 1) + [self.divisor])
        return found[:-1], found[-1]

    def taken_out(self, line, sign):
        """How often the answers are to be added to a line, so many times sign, that it is told by sizes alone."""
        found = [0] * len(self.ends)
        for part, thing in zip(line, self.outer):
            if thing >= self.many:
                found[thing - self.many] = -sign * part
        return found


def cleared(line, lead, column, sign, divisor):
    """A line after the exchange, in which lead is the line, times sign, of the thing that changes places."""
    part, top = line[column], lead[column]
    found = [(number * top - part * other) // divisor for number, other in zip(line, lead)]
    found[column] = sign * part
    return found


def greatest_in(tableau, numbers):
    """The greatest answer to a row of numbers in a settled tableau, or None if it has no end."""
    aimed = tableau.aimed(numbers)
    return None if aimed.rise() is not None else aimed.height()


def least_in(tableau, numbers):
    """The least answer to a row of numbers in a settled tableau, or None if it has no end."""
    greatest = greatest_in(tableau, [-number for number in numbers])
    return None if greatest is None else (-greatest[0], greatest[1])


def is_settled_in(tableau, numbers):
    """Whether all answers to a row of numbers in a settled tableau are alike."""
    least = least_in(tableau, numbers)
    return least is not None and least == greatest_in(tableau, numbers)
