"""Linear equations over integers, solved without fractions on the way."""


def solved(rows):
    """What solves equations: the list of the numerators of the unknowns, and their denominator.

    Each row has the factors of all unknowns, and last what they come to; there are as many rows as
    unknowns. The columns of all unknowns but the last one are independent. If the last column
    depends on them, the answer is a list of numbers, the last one above 0, that solves the rows
    if they came to 0, and the denominator is 0; otherwise the denominator is above 0.
    """
    many = len(rows)
    pivot = 1
    for at in range(many):
        heads = [place for place in range(at, many) if rows[place][at] != 0]
        if len(heads) == 0:
            return signed([-row[at] for row in rows[:at]] + [pivot], pivot), 0
        rows = cleared(rows, at, heads[0], pivot)
        pivot = rows[at][at]
    return signed([row[many] for row in rows], pivot), abs(pivot)


def cleared(rows, at, place, pivot):
    """The rows with this place's one moved to `at`, and in the others 0 in the column `at`.

    `pivot` is what stood in the columns cleared before; by it all numbers can be divided.
    """
    head = rows[place]
    others = list(rows)
    others[place] = rows[at]
    return [head if row == at else crossed(others[row], head, at, pivot) for row in range(len(rows))]


def crossed(row, head, at, pivot):
    """A row less so many times the head that it has 0 in the column `at`."""
    return [(head[at] * mine - row[at] * its) // pivot for mine, its in zip(row, head)]


def signed(numbers, sign):
    """The numbers, or, if the sign is below 0, their negatives."""
    return [-number for number in numbers] if sign < 0 else numbers
