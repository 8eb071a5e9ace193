"""A desk: deeds by lines of words."""

from latestow.errors import BadLine, Missing, NoPledge, NotHere, StowError, Undone

FIGURES = "0123456789"
MOST_FIGURES = 12
NONE = "-"
# What stands behind each word; of numbers there are one or more.
SHAPES = {
    "make": ("path", "number"),
    "fold": ("path",),
    "drop": ("path",),
    "write": ("path", "number", "numbers"),
    "draw": ("number", "path", "number", "numbers"),
    "reserve": ("path", "number", "number"),
    "hole": ("path", "number", "number"),
    "shorten": ("path", "number"),
    "twin": ("path", "path"),
    "move": ("path", "path"),
    "give": ("path", "number"),
    "limit": ("whose", "bound", "bound"),
    "tick": ("number",),
    "pledge": ("number",),
    "part": ("number", "number"),
    "release": ("number",),
    "settle": ("path",),
    "read": ("path", "number", "number"),
    "charge": ("whose",),
}
# The words that are a line by themselves.
ALONE = ("settle", "left", "files")


def is_path_word(word):
    # Whatever else is in it, a tab or a line's end too: whether it is a path is for the deed to say.
    return word.startswith("/")


def is_number_word(word):
    if word == "" or len(word) > MOST_FIGURES:
        return False
    return all([sign in FIGURES for sign in word]) and (word == "0" or word[0] != "0")


def number_of(word):
    if not is_number_word(word):
        raise BadLine()
    return int(word)


def path_of(word):
    if not is_path_word(word):
        raise BadLine()
    return word


def thing_of(kind, word):
    """What a word stands for, where a thing of this kind is wanted."""
    if kind == "path" or (kind == "whose" and is_path_word(word)):
        return path_of(word)
    if kind == "bound" and word == NONE:
        return None
    return number_of(word)


def things_of(shape, words):
    """What the words behind the first one stand for; several last numbers are one list."""
    if shape[-1] != "numbers":
        if len(words) != len(shape):
            raise BadLine()
        return [thing_of(kind, word) for kind, word in zip(shape, words)]
    single = len(shape) - 1
    if len(words) < len(shape):
        raise BadLine()
    things = [thing_of(kind, word) for kind, word in zip(shape, words[:single])]
    return things + [[number_of(word) for word in words[single:]]]


def parsed(text):
    """The first word of a line, and the things behind it."""
    first, *words = text.split(" ")
    if not words and first in ALONE:
        return first, []
    if first not in SHAPES:
        raise BadLine()
    return first, things_of(SHAPES[first], words)


def do_make(keeper, path, owner):
    return keeper.make(path, owner=owner)


def do_fold(keeper, path):
    return keeper.fold(path)


def do_drop(keeper, path):
    return keeper.drop(path)


def do_write(keeper, path, page, values):
    return keeper.write(path, page, values)


def do_draw(keeper, ticket, path, page, values):
    return keeper.write(path, page, values, by=ticket)


def do_reserve(keeper, path, page, many):
    return keeper.reserve(path, page, many)


def do_hole(keeper, path, page, many):
    return keeper.hole(path, page, many)


def do_shorten(keeper, path, pages):
    return keeper.shorten(path, pages)


def do_twin(keeper, path, to):
    return keeper.twin(path, to)


def do_move(keeper, path, to):
    return keeper.move(path, to)


def do_give(keeper, path, owner):
    return keeper.give(path, owner)


def do_limit(keeper, whose, soft, hard):
    return keeper.limit(whose, soft=soft, hard=hard)


def do_tick(keeper, many):
    return keeper.tick(many)


def do_pledge(keeper, many):
    return keeper.pledge(many)


def do_part(keeper, ticket, many):
    return keeper.part(ticket, many)


def do_release(keeper, ticket):
    return keeper.release(ticket)


def do_settle(keeper, path=None):
    return keeper.settle(path)


def do_read(keeper, path, page, many):
    return keeper.read(path, page, many)


def do_charge(keeper, whose):
    return keeper.charge_of(whose)


def do_left(keeper):
    return keeper.left()


def do_files(keeper):
    return keeper.files()


DEEDS = {
    "make": do_make,
    "fold": do_fold,
    "drop": do_drop,
    "write": do_write,
    "draw": do_draw,
    "reserve": do_reserve,
    "hole": do_hole,
    "shorten": do_shorten,
    "twin": do_twin,
    "move": do_move,
    "give": do_give,
    "limit": do_limit,
    "tick": do_tick,
    "pledge": do_pledge,
    "part": do_part,
    "release": do_release,
    "settle": do_settle,
    "read": do_read,
    "charge": do_charge,
    "left": do_left,
    "files": do_files,
}


def answer_of(told):
    if told is None:
        return "yes"
    if isinstance(told, list):
        return " ".join([str(thing) for thing in told]) or "none"
    return str(told)


def done(keeper, first, things):
    """Does the deed of a line; tells the answer."""
    deed = DEEDS[first]
    return answer_of(deed(keeper, *things))


class Desk:
    """Does the deeds of a keeper by lines."""

    def __init__(self, keeper):
        self.keeper = keeper

    def line(self, text):
        """The answer to one line."""
        try:
            first, things = parsed(text)
            return done(self.keeper, first, things)
        except (StowError, Missing, NoPledge) as e:
            return "no " + str(e)

    def line_among(self, text):
        """The answer to one of several lines, none of which may settle: there is no going back behind that."""
        first, things = parsed(text)
        if first == "settle":
            raise NotHere()
        return done(self.keeper, first, things)

    def together(self, lines):
        """The answers to lines of which all are done or none."""
        mark = self.keeper.mark()
        answers = []
        for at, text in enumerate(lines):
            try:
                answers.append(self.line_among(text))
            except (StowError, Missing, NoPledge) as e:
                self.keeper.back(mark)
                raise Undone(at, str(e)) from None
        return answers
