"""Polynomials in x and y, sorted tuples of terms (i, j, times): added, multiplied, worth a number."""

ONE = ((0, 0, 1),)


def gathered(terms):
    """The polynomial of a list of terms, in which powers may stand several times and times may be 0."""
    times_of = {}
    for i, j, times in terms:
        times_of[(i, j)] = times_of.get((i, j), 0) + times
    return tuple(sorted([(key[0], key[1], times) for key, times in times_of.items() if times != 0]))


def sum_of(one, other):
    """The sum of two polynomials."""
    return gathered(one + other)


def product_of(one, other):
    """The product of two polynomials."""
    terms = []
    for i, j, times in one:
        terms.extend([(i + term[0], j + term[1], times * term[2]) for term in other])
    return gathered(terms)


def to_power(poly, k):
    """A polynomial to the power k; any, nought too, is 1 to the power 0."""
    power = ONE
    for step in range(k):
        power = product_of(power, poly)
    return power


def exchanged(poly):
    """A polynomial with x and y exchanged."""
    return gathered([(j, i, times) for i, j, times in poly])


def worth_at(poly, x, y):
    """The worth of a polynomial where x and y are two whole numbers."""
    return sum([times * number_to_power(x, i) * number_to_power(y, j) for i, j, times in poly])


def number_to_power(number, k):
    """A whole number to the power k; 0 to the power 0 is 1."""
    power = 1
    for step in range(k):
        power = power * number
    return power
