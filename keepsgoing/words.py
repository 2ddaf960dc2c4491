"""The words of the language: base names, reserved words and numbers."""

LETTERS = "abcdefghijklmnopqrstuvwxyz"
DIGITS = "0123456789"
LONGEST_NAME = 8
GREATEST_NUMBER = 1000

RESERVED = {
    "kind": True, "bool": True, "num": True, "per": True, "wrap": True, "hold": True,
    "mode": True, "row": True, "of": True, "unit": True, "event": True, "gives": True,
    "local": True, "use": True, "every": True, "from": True, "assume": True, "keep": True,
    "machine": True, "state": True, "unless": True, "until": True, "go": True, "back": True,
    "then": True, "or": True, "xor": True, "and": True, "not": True, "last": True,
    "true": True, "false": True, "pick": True, "mid": True, "min": True, "max": True,
    "vote": True, "as": True, "at": True, "put": True, "sum": True, "any": True, "all": True,
    "when": True, "held": True, "merge": True, "weave": True, "here": True, "else": True,
    "fresh": True, "is": True,
}


def is_base_name(word):
    """Tell whether the word is a base name; it can be anything."""
    if not isinstance(word, str) or not 1 <= len(word) <= LONGEST_NAME:
        return False
    if word in RESERVED or word[0] not in LETTERS:
        return False
    return all(char in LETTERS or char in DIGITS for char in word)


def is_number(word):
    """Tell whether the word is a NUMBER of the grammar."""
    if not word or not all(char in DIGITS for char in word):
        return False
    if word[0] == "0":
        return word == "0"
    # Looking at the length first keeps int() from very long words.
    return len(word) <= 4 and int(word) <= GREATEST_NUMBER
