"""The document's definitions, in Fractions and by the slowest ways, to compare the program with."""

from fractions import Fraction
from itertools import combinations

from tests.support import determinant_of, entries, fraction, product_of

ZERO = Fraction(0)


def inverse_of(rows):
    """The inverse of a square table of Fractions (by Gauss and Jordan)."""
    size = len(rows)
    table = [list(row) + [Fraction(int(i == j)) for j in range(size)] for i, row in enumerate(rows)]
    for k in range(size):
        found = next(i for i in range(k, size) if table[i][k])
        table[k], table[found] = table[found], table[k]
        table[k] = [number / table[k][k] for number in table[k]]
        for i in range(size):
            if i != k:
                table[i] = [x - table[i][k] * y for x, y in zip(table[i], table[k])]
    return [row[size:] for row in table]


def rank_of(rows):
    """The number of rows that are no mixtures of those ahead of them."""
    kept = []
    for row in rows:
        row = [Fraction(number) for number in row]
        for place, other in kept:
            row = [x - row[place] * y for x, y in zip(row, other)]
        place = next((k for k, number in enumerate(row) if number), None)
        if place is not None:
            kept.append((place, [number / row[place] for number in row]))
    return len(kept)


def trace_of(rows):
    return sum((row[k] for k, row in enumerate(rows)), ZERO)


def form_of(rows, row):
    return sum((x * number * y for x, line in zip(row, rows) for number, y in zip(line, row)), ZERO)


def mixed(p, left, q, right):
    """p times the one table plus q times the other."""
    return [[p * x + q * y for x, y in zip(one, two)] for one, two in zip(left, right)]


def is_above_zero(rows):
    """Whether all leading determinants are above 0 (by Sylvester)."""
    return all(determinant_of([row[:k] for row in rows[:k]]) > 0 for k in range(1, len(rows) + 1))


def is_nowhere_below_zero(rows):
    """Whether all determinants of equal rows and columns are at least 0."""
    size = len(rows)
    return all(determinant_of([[rows[i][j] for j in places] for i in places]) >= 0
               for many in range(1, size + 1) for places in combinations(range(size), many))


def ceiling_room(core, chosen, bar):
    return mixed(bar, core, -1, chosen)


def floor_room(core, chosen, bar):
    return mixed(1, chosen, -bar, core)


def potential_in(core, room):
    return trace_of(product_of(core, inverse_of(room)))


def ceiling_score(core, chosen, bar, next_bar, row, weight):
    before = potential_in(core, ceiling_room(core, chosen, bar))
    fall = before - potential_in(core, ceiling_room(core, chosen, next_bar))
    g = inverse_of(ceiling_room(core, chosen, next_bar))
    return weight * form_of(product_of(product_of(g, core), g), row) / fall + weight * form_of(g, row)


def floor_score(core, chosen, bar, next_bar, row, weight):
    rise = potential_in(core, floor_room(core, chosen, next_bar)) - potential_in(core, floor_room(core, chosen, bar))
    h = inverse_of(floor_room(core, chosen, next_bar))
    return weight * form_of(product_of(product_of(h, core), h), row) / rise - weight * form_of(h, row)


def with_row(chosen, row, amount):
    """The table with amount * row[i] * row[j] added to each entry."""
    return [[number + amount * x * y for number, y in zip(line, row)] for line, x in zip(chosen, row)]


def simplest_of(low, high):
    """The fraction from low to high with the least bottom and the top nearest to zero, both above zero."""
    bottom = 1
    while True:
        top = -(-low * bottom // 1)
        if top <= high * bottom:
            return Fraction(top, bottom)
        bottom += 1


def thinned(book, q):
    """The tuples (label, low, high, rate, amount) of all choices, and the weights of the few loads by label."""
    core = entries(book.core())
    size = len(core)
    steps = -(-q * q * size // 1)
    up = (q + 1) / (q - 1)
    chosen = [[ZERO] * size for _ in range(size)]
    choices = []
    amounts = {}
    for step in range(steps):
        best = None
        for item in book.loads:
            if any(item.numbers):
                row, weight = book.reduced(item.label), fraction(item.weight)
                low = ceiling_score(core, chosen, up * (q * size + step), up * (q * size + step + 1), row, weight)
                high = floor_score(core, chosen, step - q * size, step + 1 - q * size, row, weight)
                if best is None or high - low > best[2] - best[1]:
                    best = item.label, low, high, row, weight
        label, low, high, row, weight = best
        rate = simplest_of(low, high)
        choices.append((label, low, high, rate, 1 / rate))
        amounts[label] = amounts.get(label, ZERO) + 1 / rate
        chosen = with_row(chosen, row, weight / rate)
    last = steps - q * size
    return choices, {label: amount * fraction(book.load(label).weight) / last for label, amount in amounts.items()}


def squares_of_load(item):
    numbers = item.numbers
    return [numbers[i] * numbers[j] for i in range(len(numbers)) for j in range(i, len(numbers))]


def shares_of(rows, row):
    """The multiples of independent rows whose sum is the row, or None if there are none."""
    table = [[Fraction(number) for number in column] for column in zip(*rows, row)]
    many = len(rows)
    for k in range(many):
        found = next(i for i in range(k, len(table)) if table[i][k])
        table[k], table[found] = table[found], table[k]
        table[k] = [number / table[k][k] for number in table[k]]
        for i in range(len(table)):
            if i != k:
                table[i] = [x - table[i][k] * y for x, y in zip(table[i], table[k])]
    if any(line[many] for line in table[many:]):
        return None
    return [line[many] for line in table[:many]]


def exactly(book):
    """The weights of the loads of the exact few by label."""
    kept = {}
    for item in book.loads:
        weight = fraction(item.weight)
        shares = shares_of([squares_of_load(book.load(label)) for label in kept], squares_of_load(item))
        if shares is None:
            kept[item.label] = weight
            continue
        multiples = dict(zip(kept, shares))
        handed = min([weight] + [-kept[label] / m for label, m in multiples.items() if m < 0])
        kept = {label: kept[label] + multiples[label] * handed for label in kept}
        kept = {label: left for label, left in kept.items() if left}
        if weight > handed:
            kept[item.label] = weight - handed
    return kept


def solved(rows, right):
    """The numbers that a square table turns into the right side."""
    return [sum((x * y for x, y in zip(row, right)), ZERO) for row in inverse_of(rows)]


def pieces_of(nodes, ends):
    """A mark for each node, equal for the nodes of one piece."""
    mark = {node: node for node in nodes}
    for first, second in ends:
        kept, gone = mark[first], mark[second]
        mark = {node: kept if mark[node] == gone else mark[node] for node in nodes}
    return mark


def resistance(net, first, second):
    """The resistance between two nodes of a piece, by the heights with 0 at the second node."""
    mark = pieces_of(net.nodes, [(line.first, line.second) for line in net])
    inner = [node for node in net.nodes if mark[node] == mark[second] and node != second]
    table = [[ZERO] * len(inner) for _ in inner]
    for line in net:
        for node, other in ((line.first, line.second), (line.second, line.first)):
            if node in inner:
                table[inner.index(node)][inner.index(node)] += fraction(line.strength)
                if other in inner:
                    table[inner.index(node)][inner.index(other)] -= fraction(line.strength)
    return solved(table, [Fraction(int(node == first)) for node in inner])[inner.index(first)]


def forests(net):
    """All sets of as many lines as the rank that join what the net joins, in order."""
    whole = pieces_of(net.nodes, [(line.first, line.second) for line in net])
    rank = len(net.nodes) - len(set(whole.values()))
    found = []
    for lines in combinations(net.lines, rank):
        marks = pieces_of(net.nodes, [(line.first, line.second) for line in lines])
        if len(set(marks.values())) == len(set(whole.values())):
            found.append(tuple(line.label for line in lines))
    return found


def forest_weight(net, forest):
    weight = Fraction(1)
    for label in forest:
        weight *= fraction(net.find_line(label).strength)
    return weight


def kind(value, many, start):
    """The Chebyshev polynomial of the first kind for the start 1, of the second kind for 2."""
    numbers = [Fraction(1), start * value]
    while len(numbers) <= many:
        numbers.append(2 * value * numbers[-1] - numbers[-2])
    return numbers[many]


def balance_of(book, push):
    """The Fractions, 0 outside the independent columns, that the square grid of the book turns into the push."""
    places = book.columns()
    core = [[entries(book.square())[i][j] for j in places] for i in places]
    numbers = [ZERO] * book.width
    for place, number in zip(places, solved(core, [push[place] for place in places])):
        numbers[place] = number
    return numbers


def rounds(few, whole, push, many):
    """The numbers after 0, 1, .. up to `many` rounds."""
    c = fraction(few.factor)
    square = entries(whole.square())
    found = [[ZERO] * whole.width]
    for k in range(many):
        x = found[-1]
        rest = [number - sum((a * b for a, b in zip(row, x)), ZERO) for number, row in zip(push, square)]
        z = balance_of(few.book, rest)
        if k == 0:
            found.append([2 * c / (c + 1) * number for number in z])
        elif c == 1:
            found.append([a + b for a, b in zip(x, z)])
        else:
            middle = (c + 1) / (c - 1)
            before, now, after = [kind(middle, n, 1) for n in (k - 1, k, k + 1)]
            found.append([2 * now / after * (middle * a + 2 * c / (c - 1) * b) - before / after * old
                          for a, b, old in zip(x, z, found[-2])])
    return found


def energy_at(book, numbers):
    """The energy for a list of Fractions."""
    return sum((fraction(item.weight) * sum(x * y for x, y in zip(item.numbers, numbers)) ** 2
                for item in book.loads), ZERO)


def cost(book, shares):
    return energy_at(book, [*shares, Fraction(-1)])


def best_shares(book):
    """The shares with the least cost, 0 for each given column that is a mixture of those ahead of it."""
    columns = [[item.numbers[j] for item in book.loads] for j in range(book.width)]
    weights = [fraction(item.weight) for item in book.loads]
    given = columns[:-1]
    places = [j for j in range(len(given)) if rank_of(given[:j + 1]) > rank_of(given[:j])]
    normal = [[sum((w * x * y for w, x, y in zip(weights, columns[i], columns[j])), ZERO) for j in places]
              for i in places]
    right = [sum((w * x * y for w, x, y in zip(weights, columns[i], columns[-1])), ZERO) for i in places]
    shares = [ZERO] * len(given)
    for place, share in zip(places, solved(normal, right)):
        shares[place] = share
    return shares


def volume(loads):
    """The product of the weights times the square of the determinant of the given numbers."""
    found = determinant_of([[Fraction(number) for number in item.numbers[:-1]] for item in loads]) ** 2
    for item in loads:
        found *= fraction(item.weight)
    return found
