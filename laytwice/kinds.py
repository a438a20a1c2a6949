"""Of what kind a value is; every question here may be asked of any value."""


def is_integer(value):
    """Whether a value is an int that is not a bool."""
    return isinstance(value, int) and not isinstance(value, bool)


def is_number(value, many):
    """Whether a value is the number of one of so many things, counted from 0."""
    return is_integer(value) and 0 <= value < many


def is_sequence(value):
    """Whether a value is a list or a tuple."""
    return isinstance(value, (list, tuple))


def is_name(value):
    """Whether a value is a string of 1 to 6 letters from a to z."""
    if not isinstance(value, str):
        return False
    return len(value) <= 6 and value.isascii() and value.isalpha() and value.islower()


def are_names(value):
    """Whether a value is a sequence of at least one name."""
    if not is_sequence(value):
        return False
    return len(value) > 0 and all([is_name(one) for one in value])
