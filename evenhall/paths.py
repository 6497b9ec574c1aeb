"""Paths: names with a colon between, from the top down."""

from evenhall.errors import BadPath
from evenhall.words import is_name


def are_names(names):
    return 1 <= len(names) <= 6 and all([is_name(name) for name in names])


def is_path(thing):
    return isinstance(thing, str) and are_names(thing.split(":"))


def names_of(path):
    if not is_path(path):
        raise BadPath("this is no path")
    return path.split(":")


def path_of(names):
    if not isinstance(names, list) or not are_names(names):
        raise BadPath("these names make no path")
    return ":".join(names)


def above(path):
    names = path.split(":")
    return [":".join(names[:many]) for many in range(1, len(names))]


def is_within(path, other):
    # The colon keeps out paths that merely begin with the same letters.
    return path == other or path.startswith(other + ":")
