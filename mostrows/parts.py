"""All parts of some names."""


def all_parts(names):
    # Those within another one stand ahead of it.
    parts = [()]
    for name in names:
        parts = parts + [ahead + (name,) for ahead in parts]
    return parts
