"""What kind a value is: the questions that all modules ask of values."""


def is_integer(value):
    """Return whether value is an integer."""
    # To Python True is an int, and equal to 1; in this package it is neither.
    return isinstance(value, int) and not isinstance(value, bool)


def is_within(value, least, most):
    """Return whether value is an integer from least to most."""
    return is_integer(value) and least <= value <= most


def is_row(value, many):
    """Return whether value is a tuple of so many items."""
    return isinstance(value, tuple) and len(value) == many


def is_pair(value):
    """Return whether value is a tuple of two items."""
    return is_row(value, 2)


def are_within(value, many, least, most):
    """Return whether value is a tuple of so many integers from least to most."""
    return is_row(value, many) and all([is_within(item, least, most) for item in value])


def is_ascending(value, most):
    """Return whether value is an ascending tuple of integers from 0 to most."""
    if not isinstance(value, tuple) or not all([is_within(item, 0, most) for item in value]):
        return False
    return all([value[place - 1] < value[place] for place in range(1, len(value))])


def number_of(text, most):
    """Return the number from 0 to most whose decimal text is text; None if it is the text of none."""
    # The length is asked first: Python refuses to read numbers of some thousand figures.
    if len(text) > len(str(most)) or not text.isascii() or not text.isdigit():
        return None
    number = int(text)
    if number > most or str(number) != text:
        return None
    return number
