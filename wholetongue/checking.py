"""Whether what is handed in as a count, a row or a depth is one."""


def is_between(thing, least, most):
    """Whether it's a number, which truths are not, from the least to the most."""
    if not isinstance(thing, int) or isinstance(thing, bool):
        return False
    return least <= thing <= most
