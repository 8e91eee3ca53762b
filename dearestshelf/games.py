"""Games in which one player names a row and the other one a column."""

from dearestshelf.errors import BadTable
from dearestshelf.ratios import Ratio


def solve_game(rows):
    """Return the value of a game, a mix of the rows and a mix of the columns that reach it."""
    _check_rows(rows)
    # With all numbers above 0 the value is above 0, too, so that mixes can be found as amounts in proportion.
    lift = 1 - min([int(number) for row in rows for number in row])
    scale, table, basis = _solved([[number + lift for number in row] for row in rows])
    many = len(rows[0])
    total = table[-1][-1]
    row_mix = [Ratio(number, total) for number in table[-1][many:-1]]
    column_mix = [Ratio(table[basis.index(at)][-1] if at in basis else 0, total) for at in range(many)]
    return Ratio(scale, total) - lift, row_mix, column_mix


def _check_rows(rows):
    """Raise BadTable if the rows are not those of a game."""
    if len(rows) == 0 or len(rows[0]) == 0:
        raise BadTable(None)
    for number, row in enumerate(rows):
        if len(row) != len(rows[0]):
            raise BadTable(number)


def _solved(rows):
    """Return the scale, the last table and the basis of the simplex method for a game of numbers above 0.

    The method looks for the greatest sum of amounts from 0 on, one for each column of the game, with which in
    each row the sum of amount times number is at most 1. The table has a row for each row of the game, and a
    last one for the sum of the amounts; a column for each column of the game, one for what each row of the game
    falls short of 1, and a last one for the limits. Its whole numbers stand for themselves over the scale. The
    basis names for each row the column whose amount it gives; all other columns have the amount 0.
    """
    many = len(rows[0])
    table = [[*row, *_unit(at, len(rows)), 1] for at, row in enumerate(rows)]
    table.append([-1] * many + [0] * (len(rows) + 1))
    basis = [many + number for number in range(len(rows))]
    scale = 1
    entering = _entering(table)
    while entering is not None:
        leaving = _leaving(table, basis, entering)
        pivot_row = table[leaving]
        table = [
            row if number == leaving else _cleared(row, pivot_row, entering, scale)
            for number, row in enumerate(table)
        ]
        basis[leaving] = entering
        scale = pivot_row[entering]
        entering = _entering(table)
    return scale, table, basis


def _unit(at, many):
    """Return `many` numbers, all 0 but for a 1 at this place."""
    return [1 if place == at else 0 for place in range(many)]


def _entering(table):
    """Return the first column with which the sum of the amounts still can rise, or None."""
    for column, number in enumerate(table[-1]):
        if number < 0:
            return column
    return None


def _leaving(table, basis, column):
    """Return the row that limits the amount of a column most.

    Of several it is the one with the first column in the basis: with the choice of the first column that can
    enter, this keeps the method from coming back to a basis.
    """
    found = None
    least = Ratio(0)
    for at, named in enumerate(basis):
        if table[at][column] > 0:
            limit = Ratio(table[at][-1], table[at][column])
            if found is None or limit < least or (limit == least and named < basis[found]):
                found = at
                least = limit
    return found


def _cleared(row, pivot_row, column, scale):
    """Return a row of the table after the pivot row has taken over the column; the division leaves no rest."""
    pivot = pivot_row[column]
    return [(pivot * number - row[column] * taken) // scale for number, taken in zip(row, pivot_row)]
