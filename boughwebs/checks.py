"""What single values are: numbers, lists, equal values."""


def is_number(thing):
    """Whether thing is an int that is not a bool."""
    return isinstance(thing, int) and not isinstance(thing, bool)


def is_number_to(thing, most):
    """Whether thing is a number from 0 to most."""
    return is_number(thing) and 0 <= thing <= most


def is_list(thing):
    """Whether thing may be given where a list is spoken of."""
    return isinstance(thing, (list, tuple))


def is_same(value, thing):
    """Whether thing, which may be anything, is this value of numbers, strings and tuples."""
    if isinstance(value, tuple):
        if not isinstance(thing, tuple) or len(thing) != len(value):
            return False
        return all([is_same(item, other) for item, other in zip(value, thing)])
    if isinstance(value, str):
        return isinstance(thing, str) and thing == value
    return is_number(thing) and thing == value
