"""What all modules ask of single values: these questions may be asked of any value."""

MODULUS = 9973


def is_number(value):
    """Whether any value is a number: an int that is neither True nor False."""
    return isinstance(value, int) and not isinstance(value, bool)


def is_within(value, low, high):
    """Whether any value is a number from low to high, both with them."""
    return is_number(value) and low <= value <= high


def is_value(value):
    """Whether any value is a value of a program."""
    return is_within(value, 0, MODULUS - 1)


def is_name(value):
    """Whether any value is a name of a variable or a procedure."""
    return isinstance(value, str) and 1 <= len(value) <= 4 and all(["a" <= sign <= "z" for sign in value])


def is_listed(value, most):
    """Whether any value is a list or tuple of at most so many items."""
    return isinstance(value, (list, tuple)) and len(value) <= most


def is_tuple_of(value, many):
    """Whether any value is a tuple of just so many items."""
    return isinstance(value, tuple) and len(value) == many


def is_like(value, told):
    """Whether any value is just what is told: a number, a text, None, or a tuple of such."""
    if isinstance(told, tuple):
        return is_tuple_of(value, len(told)) and all([is_like(part, other) for part, other in zip(value, told)])
    if told is None:
        return value is None
    if isinstance(told, str):
        return isinstance(value, str) and value == told
    return is_number(value) and value == told


def is_ascending(value, low, high):
    """Whether any value is an ascending tuple of numbers from low to high."""
    if not isinstance(value, tuple):
        return False
    for number in value:
        if not is_within(number, low, high):
            return False
        low = number + 1
    return True
