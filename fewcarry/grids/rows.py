"""Work on plain rows of whole numbers, of any number and length."""

from math import gcd


def dot(left, right):
    """The sum of the products of the numbers at equal places."""
    return sum([x * y for x, y in zip(left, right)])


def turned_rows(rows, width):
    """The columns of rows of `width` numbers, as rows."""
    return [[row[j] for row in rows] for j in range(width)]


def common_divisor(row):
    """The greatest whole number that divides all numbers of the row; 0 if there are none but zeros."""
    divisor = 0
    for number in row:
        divisor = gcd(divisor, number)
    return divisor


def without_divisor(row):
    """The row divided by the greatest whole number that divides all of it; a row of zeros stays."""
    divisor = common_divisor(row)
    return [number // divisor for number in row] if divisor > 1 else list(row)


def eliminated(rows, width):
    """Clear the independent ones of the first `width` columns without fractions (Bareiss, Jordan).

    Returns the table, the places of the independent columns, and the pivot.
    Row k of the table has the pivot in independent column k, where all other rows have 0.
    For a square of independent columns the pivot is the determinant.
    """
    table = [list(row) for row in rows]
    places = []
    pivot = 1
    for column in range(width):
        done = len(places)
        found = _first_place(table, done, column)
        if found is None:
            continue
        if found > done:
            # An exchange changes the sign of the determinant, and the minus changes it back.
            given_up = [-number for number in table[done]]
            table[done] = table[found]
            table[found] = given_up
        base = table[done]
        table = [row if k == done else cleared(row, base, column, pivot) for k, row in enumerate(table)]
        pivot = base[column]
        places.append(column)
    return table, places, pivot


def determinant_of(rows):
    """The determinant of as many rows as they have numbers; 1 if there are none."""
    _, places, pivot = eliminated(rows, len(rows))
    return pivot if len(places) == len(rows) else 0


def cleared(row, base, column, divisor):
    """The row times the pivot of the base row, less the multiple of it that leaves 0 in the column.

    The divisor is the pivot of the step before (Bareiss).
    """
    # All numbers stay minors of the first table, so the divisor leaves no rest.
    pivot = base[column]
    factor = row[column]
    return [(pivot * x - factor * y) // divisor for x, y in zip(row, base)]


def _first_place(table, start, column):
    for k in range(start, len(table)):
        if table[k][column] != 0:
            return k
    return None
