"""Looks at things of any shape, for the judges: none of these raises an error."""


def is_int(thing):
    """Tell whether the thing is an integer; a bool is none."""
    return isinstance(thing, int) and not isinstance(thing, bool)


def is_within(thing, low, high):
    """Tell whether the thing is an integer from low to high."""
    return is_int(thing) and low <= thing <= high


def is_number_of(thing, many):
    """Tell whether the thing is the number of one of so many things."""
    return is_within(thing, 0, many - 1)


def is_tuple_of(thing, size):
    """Tell whether the thing is a tuple with so many parts."""
    return isinstance(thing, tuple) and len(thing) == size


def are_all_tuples(things, size):
    """Tell whether this is a tuple of tuples with so many parts each."""
    return isinstance(things, tuple) and all(is_tuple_of(thing, size) for thing in things)


def are_different(words):
    """Tell whether these are strings, all different."""
    return all(isinstance(word, str) for word in words) and len(set(words)) == len(words)


def is_ascending(numbers):
    """Tell whether these integers ascend, each one once."""
    return all(low < high for low, high in zip(numbers, numbers[1:]))
