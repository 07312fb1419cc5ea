"""Copies of values, with the lists and dicts in them."""


def copied(thing):
    """Return the value itself, with a new list or dict for each one in it."""
    if isinstance(thing, list):
        return [copied(item) for item in thing]
    if isinstance(thing, tuple):
        return tuple([copied(item) for item in thing])
    if isinstance(thing, dict):
        return {key: copied(thing[key]) for key in thing}
    return thing
