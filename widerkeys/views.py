"""Views: the marks of cells, by the numbers that stand in a store."""

from widerkeys.sorting import ascending


def mark_of(store, cell):
    """The mark of a cell that is there, with the number that is meant as its top."""
    meant, narrow, wide = store.stock[cell]
    kind = store.world.narrow
    sent = store.under_way.get(cell, [])
    late = ascending([(program, number, _word_for(kind, meant, worth)) for program, number, worth in sent])
    size = "small" if meant in kind else "great"
    return size, meant, _word_for(kind, meant, narrow), _word_for(kind, meant, wide), late, _visit_of(store, cell)


def _word_for(kind, meant, number):
    """The word for what stands in a side, or is late, where this number is meant."""
    if number is None:
        return "none"
    if number == meant:
        return "same"
    if number not in kind:
        return "far"
    # A small number that is cut is itself, so only a great one has another cut.
    return "cut" if number == kind.cut(meant) else "old"


def _visit_of(store, cell):
    fill = store.holds[3]
    if fill == () or fill[1] != cell[0]:
        return ""
    return "ahead" if cell in store.unvisited else "seen"
