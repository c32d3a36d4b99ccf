"""An image read off again, by the table of [18]."""

CODES = {
    1: ("row", 0), 2: ("push", 1), 3: ("load", 1), 4: ("store", 1), 5: ("fetch", 1), 6: ("lay", 1), 7: ("add", 0),
    8: ("take", 0), 9: ("times", 0), 10: ("over", 0), 11: ("rest", 0), 12: ("less", 0), 13: ("same", 0),
    14: ("jump", 1), 15: ("unless", 1), 16: ("call", 3), 17: ("give", 1), 18: ("say", 1), 19: ("nothing", 0),
}


def read_off(code):
    """(at, word, what it has) of all codes, in turn."""
    found = []
    at = 0
    while at < len(code):
        word, many = CODES[code[at]]
        has = code[at + 1:at + 1 + many]
        assert len(has) == many
        found.append((at, word, has))
        at += 1 + many
    return found
