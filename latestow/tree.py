"""Names: what a path is, and the folders above it."""

from latestow.errors import BadPath

ROOT = "/"
DEEPEST = 5
LONGEST = 8
SIGNS = "abcdefghijklmnopqrstuvwxyz0123456789"


def is_name(text):
    return 1 <= len(text) <= LONGEST and all([sign in SIGNS for sign in text])


def fits(path):
    """Whether a text is a path."""
    if path == ROOT:
        return True
    ahead, *names = path.split("/")
    return ahead == "" and 1 <= len(names) <= DEEPEST and all([is_name(name) for name in names])


def parent(path):
    """The folder in which a thing stands; the root stands in none."""
    if path == ROOT or not fits(path):
        raise BadPath(path)
    return path[:path.rfind("/")] or ROOT


def chain(path):
    """All folders in which a thing stands, from the innermost up to the root."""
    if not fits(path):
        raise BadPath(path)
    folders = []
    at = path
    while at != ROOT:
        at = parent(at)
        folders.append(at)
    return folders
