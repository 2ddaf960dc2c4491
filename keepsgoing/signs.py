"""The operators between two EXPRs, and the words with EXPRs in parentheses."""

# How tight an operator is; those in front and the BOTTOMs follow.
THEN = 1
COMPARING = 5
FRONT = 8
BOTTOM = 9

LEVELS = {
    "then": 1, "or": 2, "xor": 3, "and": 4, "==": 5, "!=": 5, "<": 5, "<=": 5,
    "+": 6, "-": 6, "*": 7, "/": 7,
}

# What an operator is called in a tree, and the other way round.
MEANINGS = {
    "then": "then", "or": "or", "xor": "xor", "and": "and", "==": "eq", "!=": "ne",
    "<": "lt", "<=": "le", "+": "add", "-": "sub", "*": "mul", "/": "div",
}
SIGNS = {
    "then": "then", "or": "or", "xor": "xor", "and": "and", "eq": "==", "ne": "!=",
    "lt": "<", "le": "<=", "add": "+", "sub": "-", "mul": "*", "div": "/",
}
FRONTS = {"not": "not", "last": "last", "neg": "-"}

# How many EXPRs a word has in its parentheses; None for one or more.
CALLS = {
    "pick": 3, "mid": 3, "vote": 3, "put": 3, "min": 2, "max": 2, "at": 2,
    "sum": 1, "any": 1, "all": 1, "row": None, "weave": None,
}
