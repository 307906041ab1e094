"""Papers: what shows that no safe order of a task costs less."""

from widerkeys.forms import is_ascending, is_count, is_tuple_of
from widerkeys.integers import is_between
from widerkeys.scenes import Scene
from widerkeys.sorting import ascending
from widerkeys.tables import closed_table, growth_of, is_covered, is_table


def papers_of(ways, cost):
    """The papers that these ways make for a cost, or for None."""
    # What costs as much leads to nothing that costs less.
    kept = [way for way in ways if way.order == () or cost is None or way.cost < cost]
    return ascending([(way.done, way.cost, way.table) for way in kept])


def are_right(search, value, cost):
    """Whether any value is right papers for a cost, or for None."""
    if not _are_papers(search, value):
        return False
    begins = _beginnings(search, value)
    if not begins:
        return False
    scene = search.first_scene()
    if any([closed_table(scene, table) is None for table in begins]):
        return True
    entries = _by_done(value)
    return all([_is_followed(search, entries, entry, cost) for entry in value])


def _are_papers(search, value):
    """Whether any value is an ascending tuple of entries."""
    if not isinstance(value, tuple) or not all([_is_entry(search, entry) for entry in value]):
        return False
    return is_ascending(value)


def _is_entry(search, value):
    if not is_tuple_of(value, 3, 3):
        return False
    done, cost, table = value
    if not _are_done(search, done) or not is_count(cost):
        return False
    return is_table(Scene(search.world, search.setup_of(done).what_holds()), table)


def _are_done(search, value):
    """Whether any value is an ascending tuple of places that can be done ahead of all others."""
    if not isinstance(value, tuple):
        return False
    if not all([is_between(place, 0, len(search.steps) - 1) for place in value]):
        return False
    return is_ascending(value) and search.setup_of(value) is not None


def _beginnings(search, papers):
    """The tables of the entries that a search can begin with."""
    # Here the marks count, whether something is wrong with them or not.
    first = growth_of(search.first_scene(), [search.first_marks()]).greatest()
    return [table for done, cost, table in papers if done == () and cost == 0 and is_covered(table, first)]


def _by_done(papers):
    found = {}
    for done, cost, table in papers:
        found.setdefault(done, []).append((cost, table))
    return found


def _is_followed(search, entries, entry, cost):
    """Whether nothing that costs less than this can come of an entry without another entry for it."""
    done, spent, _ = entry
    if len(done) == len(search.steps):
        return cost is not None and spent >= cost
    for place in search.places():
        if place not in done and not _is_settled(search, entries, entry, place, cost):
            return False
    return True


def _is_settled(search, entries, entry, place, cost):
    """Whether nothing is missing of what comes of an entry by the step at a place."""
    done, spent, table = entry
    if not search.is_possible(done, place):
        return True
    total = spent + search.cost_behind(done, place)
    if cost is not None and total >= cost:
        return True
    after = search.table_behind(done, table, place)
    if after is None:
        return True
    others = entries.get(ascending([*done, place]), [])
    return any([least <= total and is_covered(other, after) for least, other in others])
