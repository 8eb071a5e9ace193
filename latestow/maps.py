"""Maps: where the settled pages of a file lie, and what a file is charged."""

NODE = 3
SHEET = 6


def worst(pages, *, node=NODE, sheet=SHEET):
    """The sheets for so many rows, where each page may need a row of its own."""
    beyond = max(0, pages - node)
    return (beyond + sheet - 1) // sheet


def charge(pages):
    return pages + worst(pages)


def goes_on(row, page, block, kind):
    first_page, first_block, many, same_kind = row
    return page == first_page + many and block == first_block + many and kind == same_kind


def runs_of(places):
    """The fewest rows (page, block, many, kind), by page, for a dict from page to (block, kind)."""
    rows = []
    for page in sorted(places):
        block, kind = places[page]
        if rows and goes_on(rows[-1], page, block, kind):
            first_page, first_block, many, same_kind = rows[-1]
            rows[-1] = (first_page, first_block, many + 1, same_kind)
        else:
            rows.append((page, block, 1, kind))
    return rows


def places_of(runs):
    """The dict from page to (block, kind) again."""
    places = {}
    for page, block, many, kind in runs:
        for step in range(many):
            places[page + step] = (block + step, kind)
    return places


def packed(runs):
    """The tuple of the rows that stand in the file's own row, and the list of its sheets."""
    others = runs[NODE:]
    sheets = [tuple(others[at:at + SHEET]) for at in range(0, len(others), SHEET)]
    return tuple(runs[:NODE]), sheets


def unpacked(first, sheets):
    """The list of all rows again."""
    rows = list(first)
    for sheet in sheets:
        rows.extend(sheet)
    return rows
