"""What an argument is: tests that change nothing."""

from cellplaces.errors import InvalidValues


def is_whole(value):
    """Tell whether an object is a whole number."""
    return isinstance(value, int) and not isinstance(value, bool)


def is_count(value):
    """Tell whether an object is a count."""
    return is_whole(value) and value >= 0


def is_letter(name):
    """Tell whether an object is a letter."""
    if not isinstance(name, str) or not 1 <= len(name) <= 10:
        return False
    return all(["a" <= sign <= "z" for sign in name])


def is_values(values, names):
    """Tell whether an object is a dictionary of letters and whole numbers in which all these names stand."""
    if not isinstance(values, dict):
        return False
    if not all([is_letter(name) and is_whole(value) for name, value in values.items()]):
        return False
    return all([name in values for name in names])


def check_values(values, sizes):
    """Raise the error for an object that is no values for these size letters."""
    if not is_values(values, sizes) or not all([values[name] >= 1 for name in sizes]):
        raise InvalidValues(values)
