"""What several tests need."""


def kinds(value):
    """The kinds of a value and of all in it: True == 1, but their kinds are unlike."""
    if isinstance(value, tuple):
        return tuple(kinds(inner) for inner in value)
    return type(value)
