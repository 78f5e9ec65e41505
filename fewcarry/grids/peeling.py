"""Squares taken away from symmetric tables of whole numbers, without fractions."""

from fewcarry.grids.rows import cleared, dot, without_divisor


def peeled(rows):
    """Take a square away at each place of a symmetric table, in ascending order, until nothing is left.

    Returns the pairs of a place and the row that the table had there, and None;
    or, if the table is below zero somewhere, the pairs so far and a direction in which it is.
    """
    table = list(rows)
    taken = []
    divisor = 1
    for place in range(len(table)):
        line = table[place]
        pivot = line[place]
        if pivot < 0 or (pivot == 0 and any([number != 0 for number in line])):
            return taken, _direction_below(table, place, taken)
        if pivot > 0:
            table = [cleared(row, line, place, divisor) if k > place else row for k, row in enumerate(table)]
            divisor = pivot
            taken.append((place, line))
    return taken, None


def _direction_below(table, place, taken):
    # The squares that were taken must not count, so the direction meets each of their rows with 0.
    direction = _direction_of_rest(table, place)
    for done, line in taken[::-1]:
        met = dot(line, direction)
        direction = [line[done] * number for number in direction]
        direction[done] = -met
    return without_divisor(direction)


def _direction_of_rest(table, place):
    line = table[place]
    direction = [0 for _ in line]
    if line[place] < 0:
        direction[place] = 1
        return direction
    # The place has no worth of its own but some beside another place: a great share of it,
    # with the right sign, outweighs what the other place is worth.
    other = [k for k, number in enumerate(line) if number != 0][0]
    direction[other] = 2 * line[other]
    direction[place] = -1 - table[other][other]
    return direction
