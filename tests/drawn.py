"""Drawn deeds, and the doing of a deed by the keeper and by the plain store at once."""

from latestow import errors
from plain import Refused

PATHS = ("/a", "/b", "/c", "/d/a", "/d/b", "/d/e/a", "/d/e/b", "/f/a", "/f/g", "/h")
FOLDERS = ("/d", "/d/e", "/f", "/i", "/d/j")
WRONG = ("", "a", "/", "/A", "/a/", "/a/b", "/no/x", "/d/e", "/toolongname", "/a/b/c/d/e/f")
FAILURES = (errors.StowError, errors.Missing, errors.NoPledge)


def fields_of(error):
    """The fields of an error in the told order."""
    order = ("path", "page", "ticket", "whose", "asked", "there", "many", "most", "helps", "began", "at", "why", "size")
    return tuple(getattr(error, name) for name in order if hasattr(error, name))


def draw_path(chance):
    if chance.random() < 0.04:
        return chance.choice(WRONG)
    return chance.choice(PATHS)


def draw_file(chance, plain):
    """Mostly a file that is there."""
    if plain.files and chance.random() < 0.85:
        return chance.choice(sorted(plain.files))
    return draw_path(chance)


def draw_whose(chance):
    if chance.random() < 0.1:
        return chance.choice((-1, 10, "/no", "x", "/a"))
    return chance.choice((0, 0, 1, 2, "/", "/", "/d", "/d/e", "/f"))


def draw_page(chance):
    return chance.choice((0, 0, 1, 2, 3, 5, 8, 12, 20, 30, 57, 59, 60, chance.randrange(-1, 62)))


def draw_many(chance):
    return chance.choice((0, 1, 1, 2, 3, 4, 7, 11, 20, chance.randrange(-1, 40)))


def draw_ticket(chance, plain):
    """Mostly a pledge that is there."""
    if plain.pledges and chance.random() < 0.9:
        return chance.choice(sorted(plain.pledges))
    return chance.randrange(plain.last_pledge + 2)


def draw_by(chance, plain):
    if chance.random() < (0.7 if plain.pledges else 0.98):
        return {}
    return {"by": draw_ticket(chance, plain)}


def draw_bound(chance):
    return chance.choice((None, None, 0, 3, 8, 15, 30, 40, chance.randrange(-1, 60)))


def draw_write(chance, plain):
    values = [chance.randrange(10 ** 12) for at in range(max(0, draw_many(chance)))]
    return "write", (draw_file(chance, plain), draw_page(chance), values), draw_by(chance, plain)


def draw_twin(chance, plain):
    named = draw_by(chance, plain)
    if chance.random() < 0.5:
        named["owner"] = chance.choice((0, 1, 2, None, 10))
    return "twin", (draw_file(chance, plain), draw_path(chance)), named


def draw_deed(chance, plain):
    """One deed: its name, its things, and those handed in by name."""
    deed = chance.choice((
        "make make make fold drop write write write write write write reserve reserve hole hole shorten twin twin move"
        " give limit tick tick pledge pledge part release settle settle settle"
    ).split())
    path = draw_file(chance, plain)
    if deed == "make":
        return deed, (draw_path(chance),), {"owner": chance.choice((0, 0, 1, 1, 2, 9, -1, 10))}
    if deed == "fold":
        return deed, (chance.choice(FOLDERS + WRONG[-3:]),), {}
    if deed == "drop":
        return deed, (chance.choice((path, path, path, *FOLDERS)),), {}
    if deed == "write":
        return draw_write(chance, plain)
    if deed == "reserve":
        return deed, (path, draw_page(chance), draw_many(chance)), draw_by(chance, plain)
    if deed == "hole":
        return deed, (path, draw_page(chance), draw_many(chance)), {}
    if deed == "shorten":
        return deed, (path, draw_page(chance)), {}
    if deed == "twin":
        return draw_twin(chance, plain)
    if deed == "move":
        return deed, (path, draw_path(chance)), {}
    if deed == "give":
        return deed, (path, chance.choice((0, 1, 2, 9, 10))), {}
    if deed == "limit":
        return deed, (draw_whose(chance),), {"soft": draw_bound(chance), "hard": draw_bound(chance)}
    if deed == "tick":
        return deed, (chance.choice((0, 1, 2, 4, 6, -1)),), {}
    if deed == "pledge":
        return deed, (chance.choice((1, 2, 3, 5, 9, 0, -1, 50)),), {}
    if deed == "part":
        return deed, (draw_ticket(chance, plain), chance.choice((0, 1, 1, 2, 4))), {}
    if deed == "release":
        return deed, (draw_ticket(chance, plain),), {}
    return deed, ((path,) if chance.random() < 0.5 else ()), {}


def do_both(case, keeper, plain, deed, things, named):
    """Does a deed by both, which must tell or refuse the same; tells the refusal's text or None."""
    handed = [list(thing) if isinstance(thing, list) else thing for thing in things]
    try:
        should = plain.do(deed, *things, **named)
        refusal = None
    except Refused as e:
        should = None
        refusal = e
    try:
        told = getattr(keeper, deed)(*things, **named)
        case.assertIsNone(refusal, f"{deed} {things} {named}: let, not {refusal and refusal.text()}")
        case.assertEqual(told, should)
    except FAILURES as e:
        case.assertIsNotNone(refusal, f"{deed} {things} {named}: refused with {e}")
        case.assertEqual(str(e), refusal.text())
        case.assertEqual(e.__class__.__name__, refusal.name)
        case.assertEqual(sorted(map(str, fields_of(e))), sorted(map(str, refusal.fields)))
    case.assertEqual(list(things), handed)
    return refusal and refusal.text()


def begin(case, chance, keeper, plain):
    """Some folders and files with which a drawn history begins, settled."""
    for path in ("/d", "/d/e", "/f"):
        do_both(case, keeper, plain, "fold", (path,), {})
    for path in chance.sample(PATHS, 4):
        do_both(case, keeper, plain, "make", (path,), {"owner": chance.randrange(3)})
    do_both(case, keeper, plain, "settle", (), {})
