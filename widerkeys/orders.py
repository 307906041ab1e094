"""Orders: which sequences of steps are safe, and which one of them costs least."""

from widerkeys.errors import BadPlace, BadTask
from widerkeys.forms import is_tuple_of
from widerkeys.integers import is_between, is_integer
from widerkeys.papers import are_right, papers_of
from widerkeys.searches import Search
from widerkeys.tasks import is_task


def cheapest(task):
    """("order", order, cost, papers) of a safe order of the least cost, or ("none", papers)."""
    _check_task(task)
    search = Search(task)
    ways = search.ways(None)
    best = _cheapest_way(search, ways)
    if best is not None:
        return "order", best.order, best.cost, papers_of(ways, best.cost)
    if not ways:
        # Something is wrong in the first moment already.
        return "none", (((), 0, search.first_marks()),)
    return "none", papers_of(ways, None)


def shows_cheapest(task, value):
    """Whether any value is such an answer, with papers that show it."""
    _check_task(task)
    search = Search(task)
    if is_tuple_of(value, 2, 2) and value[0] == "none":
        return are_right(search, value[1], None)
    if not is_tuple_of(value, 4, 4) or value[0] != "order":
        return False
    _, order, cost, papers = value
    if not is_integer(cost) or _cost_of_order(search, order) != cost:
        return False
    return are_right(search, papers, cost)


def order_with(task, one, other):
    """Any safe order in which place one is ahead of place other; None if there is none."""
    _check_task(task)
    for value in (one, other):
        if not is_between(value, 0, len(task[2]) - 1):
            raise BadPlace(value)
    if one == other:
        raise BadPlace(other)
    return _order_with(_search_without_cost(task), (one, other))


def musts(task):
    """(i, j) for all places i that are ahead of place j in each safe order; None if there is none."""
    _check_task(task)
    search = _search_without_cost(task)
    order = _order_with(search, None)
    if order is None:
        return None
    known = [order]
    found = []
    for i in search.places():
        for j in search.places():
            if i == j or any([_is_ahead(safe, j, i) for safe in known]):
                continue
            order = _order_with(search, (j, i))
            if order is None:
                found.append((i, j))
            else:
                known.append(order)
    return tuple(found)


def _check_task(task):
    if not is_task(task):
        raise BadTask(task)


def _cheapest_way(search, ways):
    """The first one of the ways that do all steps and cost least; None if none does all."""
    best = None
    for way in ways:
        if len(way.order) == len(search.steps) and (best is None or way.cost < best.cost):
            best = way
    return best


def _cost_of_order(search, value):
    """What any value costs as an order; None if it is no safe one."""
    places = search.places()
    if not is_tuple_of(value, len(places), len(places)):
        return None
    if not all([is_integer(place) for place in value]) or not all([place in value for place in places]):
        return None
    way = search.first_way()
    for place in value:
        way = None if way is None else search.behind_way(way, place)
    return None if way is None else way.cost


def _search_without_cost(task):
    """The search of a task for which it counts alone what is safe."""
    world, span, steps, durations = task
    return Search((world, span, steps, tuple([0 for _ in durations])))


def _order_with(search, ahead):
    best = _cheapest_way(search, search.ways(ahead))
    return None if best is None else best.order


def _is_ahead(order, one, other):
    return order.index(one) < order.index(other)
