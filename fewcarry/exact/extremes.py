"""The lesser and the greater of two fractions."""


def lesser(a, b):
    """The lesser one of two Ratios."""
    return a if a.compare(b) <= 0 else b


def greater(a, b):
    """The greater one of two Ratios."""
    return a if a.compare(b) >= 0 else b
