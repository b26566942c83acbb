"""The search behind everypoint.systems: a point of some conditions, or multipliers that refute them.

A condition "s * (ax + by + cz + d) is at least zero" gives the column (s*a, s*b, s*c, s*d, strict)
with strict 1 if it must be above zero, and else 0. One more column, SLACK, stands for "1 is above
zero". Weights of at least zero for the columns are a refutation if the weighted sums of the first
four rows are zero and that of the fifth row is above zero.
"""

from math import gcd

from everypoint.ratios import integer_sign

SLACK = (0, 0, 0, 1, 1)
EQUATIONS = 4


class Tableau:
    """The columns, written by four of them (the basis), as far as those can make up the first four rows.

    All entries are integers and stand for their quotients by the divisor, which is above zero. Four
    unit columns at the end keep how the rows were made from those at the beginning.
    """

    def __init__(self, columns):
        self.width = len(columns)
        self.entries = [
            [column[at] for column in columns] + [int(unit == at) for unit in range(EQUATIONS)]
            for at in range(EQUATIONS + 1)
        ]
        self.basis = [None] * EQUATIONS
        self.divisor = 1

    def pivot(self, at, column):
        """Takes the column into the basis, at the place of this row."""
        chosen = self.entries[at]
        entry = chosen[column]
        divisor = self.divisor
        for k in range(EQUATIONS + 1):
            row = self.entries[k]
            factor = row[column]
            if k != at and (factor != 0 or entry != divisor):
                # The division leaves no rest: the quotients are determinants of the first columns.
                self.entries[k] = [(entry * x - factor * y) // divisor for x, y in zip(row, chosen)]
        self.basis[at] = column
        self.divisor = entry

    def fill_basis(self):
        """Takes a column into the basis for each row that is not zero throughout."""
        for at in range(EQUATIONS):
            row = self.entries[at]
            column = self.first_column(at, (-1, 1))
            if column is not None:
                if row[column] < 0:
                    # The sum of an equation is zero, so its row may be turned to keep the divisor above zero.
                    self.entries[at] = [-x for x in row]
                self.pivot(at, column)

    def first_column(self, at, signs):
        """Returns the first column whose entry in the row has one of the signs, or None."""
        row = self.entries[at]
        for column in range(self.width):
            if integer_sign(row[column]) in signs:
                return column
        return None

    def entering(self):
        """Returns the first column that would raise the sum of the fifth row, or None."""
        return self.first_column(EQUATIONS, (1,))

    def leaving(self, column):
        """Returns the row whose column must leave the basis for this one, or None if all may stay."""
        # Taking the least column in and the least one out (Bland's rule) never comes back to a basis.
        best = None
        for at in range(EQUATIONS):
            if self.entries[at][column] > 0 and (best is None or self.basis[at] < self.basis[best]):
                best = at
        return best

    def weights(self, column):
        """Returns the weights of the columns if none has to leave the basis for this one."""
        found = [0 for _ in range(self.width)]
        found[column] = self.divisor
        for at in range(EQUATIONS):
            if self.basis[at] is not None:
                found[self.basis[at]] = -self.entries[at][column]
        return found

    def solution(self):
        """Returns integers (x, y, z, w), w above zero, if no column would raise the fifth row."""
        # The fifth row is now its first form minus x, y, z and w times the first four rows,
        # and at most zero throughout; so each column's sum with (x, y, z, w) is at least its strict.
        last = self.entries[EQUATIONS]
        return [-last[self.width + at] for at in range(EQUATIONS)]


def solve(columns):
    """Returns ("point", [x, y, z, w]) with the point (x / w, y / w, z / w), or ("none", weights)."""
    tableau = Tableau(columns + [SLACK])
    tableau.fill_basis()
    while True:
        column = tableau.entering()
        if column is None:
            return ("point", tableau.solution())
        at = tableau.leaving(column)
        if at is None:
            # SLACK alone cannot make up the zero of the fourth row, so some other weight is above zero.
            return ("none", reduced(tableau.weights(column)[:-1]))
        tableau.pivot(at, column)


def reduced(integers):
    """Returns the integers divided by what they share; at least one of them is not zero."""
    shared = 0
    for x in integers:
        shared = gcd(shared, x)
    return [x // shared for x in integers]
