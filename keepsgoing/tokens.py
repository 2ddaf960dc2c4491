"""Tokens: the words and signs of a text."""

RUN = "abcdefghijklmnopqrstuvwxyzABCDEFGHIJKLMNOPQRSTUVWXYZ0123456789"
BLANKS = (" ", "\n")
LONG_SIGNS = ("..", "==", "!=", "<=")


def tokens_of(text):
    """Return the tokens of a text, in order."""
    found = []
    at = 0
    while at < len(text):
        end = _end_of_token(text, at)
        if text[at] not in BLANKS:
            found.append(text[at:end])
        at = end
    return tuple(found)


def _end_of_token(text, at):
    if text[at] in RUN:
        end = at + 1
        while end < len(text) and text[end] in RUN:
            end += 1
        return end
    if text[at:at + 2] in LONG_SIGNS:
        return at + 2
    return at + 1
