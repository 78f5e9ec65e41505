"""Work on plain rows of whole numbers, of any number and length."""


def dot(left, right):
    """The sum of the products of the numbers at equal places."""
    return sum([x * y for x, y in zip(left, right)])


def turned_rows(rows, width):
    """The columns of rows of `width` numbers, as rows."""
    return [[row[j] for row in rows] for j in range(width)]


def eliminated(rows, width):
    """Clear the independent ones of the first `width` columns without fractions (Bareiss, Jordan).

    Returns the table, the places of the independent columns, and the pivot.
    Row k of the table has the pivot in independent column k, where all other rows have 0.
    For a square of independent columns the pivot is the determinant.
    """
    table = [list(row) for row in rows]
    places = []
    pivot = 1
    for column in range(width):
        done = len(places)
        found = _first_place(table, done, column)
        if found is None:
            continue
        if found > done:
            # An exchange changes the sign of the determinant, and the minus changes it back.
            given_up = [-number for number in table[done]]
            table[done] = table[found]
            table[found] = given_up
        base = table[done]
        table = [row if k == done else _cleared(row, base, column, pivot) for k, row in enumerate(table)]
        pivot = base[column]
        places.append(column)
    return table, places, pivot


def _first_place(table, start, column):
    for k in range(start, len(table)):
        if table[k][column] != 0:
            return k
    return None


def _cleared(row, base, column, divisor):
    # All numbers stay minors of the first table, so the divisor, the pivot of the step before,
    # leaves no rest.
    pivot = base[column]
    factor = row[column]
    return [(pivot * x - factor * y) // divisor for x, y in zip(row, base)]
