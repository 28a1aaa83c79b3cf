"""The greatest sum of some numbers under limits, and the shares of these limits that show that none is greater."""

# The simplex method over whole numbers. A sheet has a row for each limit, with what each number, then each limit's
# slack, counts there, and the limit last; its last row is that of the sum. All are so many parts of one: those of the
# row last turned by, so that dividing by them leaves nothing over.


def first_sheet(rows, limits):
    sheet = []
    for at, row in enumerate(rows):
        slacks = [1 if at == other else 0 for other in range(len(rows))]
        sheet.append(list(row) + slacks + [limits[at]])
    sheet.append([-1] * len(rows[0]) + [0] * (len(rows) + 1))
    return sheet


def place_to_raise(sheet):
    # The first one, here and among rows that bind alike: else the same sheets might come round again for ever.
    for place, number in enumerate(sheet[-1][:-1]):
        if number < 0:
            return place
    return None


def binds_sooner(one, other, place):
    return one[-1] * other[place] < other[-1] * one[place]


def row_that_binds(sheet, held, place):
    found = None
    for at in sorted(range(len(held)), key=lambda row: held[row]):
        if sheet[at][place] > 0 and (found is None or binds_sooner(sheet[at], sheet[found], place)):
            found = at
    return found


def without(row, by, place, parts):
    return [(number * by[place] - row[place] * other) // parts for number, other in zip(row, by)]


def turned(sheet, at, place, parts):
    by = sheet[at]
    return [by if other == at else without(row, by, place, parts) for other, row in enumerate(sheet)]


def greatest(rows, limits):
    width = len(rows[0])
    sheet = first_sheet(rows, limits)
    held = [width + at for at in range(len(rows))]
    parts = 1
    place = place_to_raise(sheet)
    while place is not None:
        at = row_that_binds(sheet, held, place)
        sheet = turned(sheet, at, place, parts)
        parts = sheet[at][place]
        held[at] = place
        place = place_to_raise(sheet)
    numbers = [sheet[held.index(number)][-1] if number in held else 0 for number in range(width)]
    return (parts, numbers, sheet[-1][width:-1])
