"""Names of tables and columns."""

LETTERS = "abcdefghijklmnopqrstuvwxyz"
LONGEST = 6


def is_name(text):
    return 1 <= len(text) <= LONGEST and all([sign in LETTERS for sign in text])


def are_unlike_names(texts):
    return len(set(texts)) == len(texts) and all([is_name(text) for text in texts])
