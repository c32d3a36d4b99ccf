"""What the signs tell of two numbers; truths are 1 and 0."""

MOST = 1000000000000

# The words of the rows that do what these signs tell.
WORDS = {"+": "add", "-": "take", "*": "times", "/": "over", "mod": "rest", "<": "less", "=": "same"}


def trouble_of(word, first, second):
    """Why a word of WORDS can't be done with two numbers, "" where it can."""
    if word in ("over", "rest") and second == 0:
        return "nought"
    if abs(done(word, first, second)) > MOST:
        return "great"
    return ""


def done(word, first, second):
    """What a word of WORDS tells of two numbers."""
    if word == "add":
        return first + second
    if word == "take":
        return first - second
    if word == "times":
        return first * second
    if word == "over":
        return first // second
    if word == "rest":
        return first % second
    if word == "less":
        return int(first < second)
    return int(first == second)
