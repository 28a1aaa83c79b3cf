"""What the tests share: the document's words done the slow way, and made-up tables by a fixed seed."""

import itertools
import random


def row_as_dict(columns, row):
    return dict(zip(columns, row))


def alike(columns, row, other_columns, other_row):
    one = row_as_dict(columns, row)
    other = row_as_dict(other_columns, other_row)
    return all(one[column] == other[column] for column in one if column in other)


def slow_cut(table, columns):
    rows = {tuple(row_as_dict(table[0], row)[column] for column in columns) for row in table[1]}
    return (tuple(columns), tuple(sorted(rows)))


def slow_joined(one, other):
    columns = one[0] + tuple(column for column in other[0] if column not in one[0])
    rows = []
    for row in one[1]:
        for other_row in other[1]:
            if alike(one[0], row, other[0], other_row):
                values = {**row_as_dict(one[0], row), **row_as_dict(other[0], other_row)}
                rows.append(tuple(values[column] for column in columns))
    return (columns, tuple(sorted(set(rows))))


def slow_thinned(one, other):
    rows = [row for row in one[1] if any(alike(one[0], row, other[0], seen) for seen in other[1])]
    return (one[0], tuple(rows))


def made_rows(chance, width, most, values):
    every = list(itertools.product(range(values), repeat=width))
    number = chance.randint(0, min(most, len(every)))
    return tuple(sorted(chance.sample(every, number)))


def made_table(chance, names="abcdef", width=None, most=8, values=3):
    if width is None:
        width = chance.randint(0, 4)
    columns = tuple(chance.sample(names, width))
    return (columns, made_rows(chance, width, most, values))


def made_tables(seed, number):
    chance = random.Random(seed)
    return [made_table(chance) for count in range(number)]


def slow_columns(question):
    return tuple(dict.fromkeys(column for name, columns in question for column in columns))


def slow_is_answer(question, house, row):
    values = row_as_dict(slow_columns(question), row)
    return all(tuple(values[column] for column in columns) in rows for (name, columns), rows in zip(question, house))


def slow_answers(question, house):
    values = {value for rows in house for row in rows for value in row}
    every = itertools.product(sorted(values), repeat=len(slow_columns(question)))
    return tuple(row for row in every if slow_is_answer(question, house, row))


def slow_values(columns, rows, column, row):
    return {seen[columns.index(column)] for seen in rows
            if all(seen[columns.index(gone)] == row[gone] for gone in columns if gone in row)}


def slow_by_columns(question, house, order):
    there = [{}] if all(house) else []
    levels = []
    looks = 0
    for column in order:
        behind = []
        for row in there:
            lists = [slow_values(columns, rows, column, row)
                     for (name, columns), rows in zip(question, house) if column in columns]
            looks += min(len(one) for one in lists) * len(lists)
            behind += [{**row, column: value} for value in set.intersection(*lists)]
        there = behind
        levels.append(len(there))
    told = sorted(tuple(row[column] for column in slow_columns(question)) for row in there)
    return (tuple(told), tuple(levels), looks)


def made_question(chance):
    names = chance.sample(["t", "u", "v", "a", "b", "table"], chance.randint(1, 6))
    columns = "abcdef"[:chance.randint(2, 6)]
    return tuple((name, tuple(chance.sample(columns, chance.randint(1, min(4, len(columns)))))) for name in names)


def made_house(chance, question):
    left = 3000
    house = []
    for name, columns in question:
        rows = made_rows(chance, len(columns), min(left, 12), 3)
        while not rows and chance.random() < 0.95:
            rows = made_rows(chance, len(columns), min(left, 12), 3)
        left = left // max(1, len(rows))
        house.append(rows)
    return tuple(house)


def made_houses(seed, number):
    chance = random.Random(seed)
    questions = [made_question(chance) for count in range(number)]
    return [(question, made_house(chance, question)) for question in questions]


def all_trees(names):
    if len(names) == 1:
        return [names[0]]
    found = []
    for size in range(1, len(names)):
        for one in itertools.combinations(names, size):
            other = tuple(name for name in names if name not in one)
            found += list(itertools.product(all_trees(one), all_trees(other)))
    return found


def made_tree(chance, names):
    trees = chance.sample(list(names), len(names))
    while len(trees) > 1:
        at = chance.randrange(len(trees) - 1)
        trees[at:at + 2] = [(trees[at], trees[at + 1])]
    return trees[0]


def names_in(tree):
    return [tree] if isinstance(tree, str) else names_in(tree[0]) + names_in(tree[1])


def pairs_in(tree):
    return [] if isinstance(tree, str) else pairs_in(tree[0]) + pairs_in(tree[1]) + [tree]


def slow_part(question, things, names):
    there = [at for at, (name, columns) in enumerate(question) if name in names]
    return (tuple(question[at] for at in there), tuple(things[at] for at in there))


def slow_by_tree(question, house, tree):
    parts = [slow_part(question, house, names_in(pair)) for pair in pairs_in(tree)]
    return (slow_answers(question, house), tuple(len(slow_answers(*part)) for part in parts))


def made_exponents(chance, question):
    return tuple(chance.choice((0, 1, 9, chance.randint(0, 9))) for table in question)


def slow_is_cover(question, shares):
    return all(sum(number for (name, columns), number in zip(question, shares[1]) if column in columns) >= shares[0]
               for column in slow_columns(question))


def made_cover(chance, question):
    parts = chance.randint(1, 5)
    numbers = [chance.randint(0, parts) for table in question]
    while not slow_is_cover(question, (parts, tuple(numbers))):
        numbers[chance.randrange(len(numbers))] += 1
    return (parts, tuple(numbers))


def ring_of_pairs(columns):
    return tuple((name, (one, other)) for name, one, other in zip("tuvwxy", columns, columns[1:] + columns[:1]))


def ring_of_all_but_one(columns):
    return tuple((name, tuple(column for column in columns if column != lacking))
                 for name, lacking in zip("tuvwxy", columns))


def slow_widest(question, columns):
    sets = {frozenset(columns) & frozenset(own) for name, own in question}
    return {one for one in sets if not any(one < other for other in sets)}


def slow_is_ring(question, columns):
    if len(set(columns)) != len(columns) or not set(columns) <= set(slow_columns(question)):
        return False
    widest = slow_widest(question, columns)
    pairs = {frozenset((columns[at - 1], columns[at])) for at in range(len(columns))}
    all_but_one = {frozenset(columns) - {column} for column in columns}
    return len(columns) >= 4 and widest == pairs or len(columns) >= 3 and widest == all_but_one


def slow_has_ring(question):
    every = slow_columns(question)
    return any(slow_is_ring(question, columns)
               for size in range(3, len(every) + 1) for columns in itertools.permutations(every, size))


def slow_ears(left):
    """All that may be taken off first, each with each of its holders."""
    found = []
    for name, columns in left.items():
        others = {other: held for other, held in left.items() if other != name}
        shared = {column for column in columns if any(column in held for held in others.values())}
        found += [(name, other) for other, held in others.items() if shared <= set(held)]
    return found if len(left) > 1 else [(name, None) for name in left]


def slow_ears_show(question, some):
    left = dict(question)
    for name, holder in some:
        if (name, holder) not in slow_ears(left):
            return False
        left.pop(name)
    return not left


def all_ears(left):
    """All lists by which all tables can be taken off; none where they can't."""
    if not left:
        return [[]]
    return [[ear] + behind for ear in slow_ears(left)
            for behind in all_ears({name: left[name] for name in left if name != ear[0]})]


def made_ears(chance, question):
    """A list of ears, or None where tables are left that can't be taken off."""
    left = dict(question)
    some = []
    while left:
        found = slow_ears(left)
        if not found:
            return None
        some.append(chance.choice(found))
        left.pop(some[-1][0])
    return some


def made_eared(chance):
    question = made_question(chance)
    while made_ears(chance, question) is None:
        question = made_question(chance)
    return question


def made_ringed(chance):
    question = made_question(chance)
    while made_ears(chance, question) is not None:
        question = made_question(chance)
    return question


def slow_thinned_house(question, house):
    told = (slow_columns(question), slow_answers(question, house))
    return tuple(tuple(row for row in rows if row in slow_cut(told, columns)[1])
                 for (name, columns), rows in zip(question, house))


def has_answer(question, house, values):
    """Whether the values of some columns stand in an answer; found without making the answers."""
    if not question:
        return True
    columns = question[0][1]
    return any(has_answer(question[1:], house[1:], {**values, **row_as_dict(columns, row)}) for row in house[0]
               if all(values.get(column, value) == value for column, value in zip(columns, row)))


def slow_through(question, house):
    told = [row_as_dict(slow_columns(question), row) for row in slow_answers(question, house)]
    return tuple(tuple(sum(tuple(values[column] for column in columns) == row for values in told) for row in rows)
                 for (name, columns), rows in zip(question, house))


def column_apart(number, rows=40):
    """Tables of one column each, all unlike, and a house of so many rows each."""
    question = tuple((name, (name,)) for name in "fbdace"[:number])
    return (question, tuple(tuple((value * (at + 2) + at,) for value in range(rows)) for at in range(number)))


def made_star(chance, number, rows=40, hubs=5):
    """Tables that all share the column a, with rows for so many of its values; answers are easily made apart."""
    question = tuple((name, ("a", column)) for name, column in zip("tuvwx", "bcdef"[:number]))
    every = [(hub, value) for hub in range(hubs) for value in range(2 * rows)]
    return (question, tuple(tuple(sorted(chance.sample(every, rows))) for table in question))


def star_answers(house):
    hubs = sorted({hub for rows in house for hub, value in rows})
    ends = [[[value for hub, value in rows if hub == one] for rows in house] for one in hubs]
    return [(one,) + row for one, lists in zip(hubs, ends) for row in itertools.product(*lists)]


ALL_RINGS = (tuple(ring_of_pairs("abcdef"[:size]) for size in (3, 4, 5, 6))
             + tuple(ring_of_all_but_one("abcdef"[:size]) for size in (3, 4, 5))
             + (ring_of_pairs("abc") + (("w", ("d", "a")), ("x", ("e",))),))


def house_of_noughts(question):
    return tuple(((0,) * len(columns),) for name, columns in question)
