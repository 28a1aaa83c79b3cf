"""Houses that are hard for every tree, and easy column by column."""


def hard(m):
    # Rows with a nought: two tables meet in the noughts m times m, but all three only where two columns have them.
    rows = tuple([(0, value) for value in range(m)] + [(value, 0) for value in range(1, m)])
    question = (("r", ("a", "b")), ("s", ("b", "c")), ("t", ("c", "a")))
    return (question, (rows, rows, rows))
