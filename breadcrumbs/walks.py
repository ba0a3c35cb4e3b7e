"""Walks: their numbers by trails, and their order."""

from breadcrumbs.checks import check_number, place_of
from breadcrumbs.errors import InvalidVisitsError
from breadcrumbs.loops import count_closed, joined_numbers, loop_numbers, one_step_more
from breadcrumbs.sites import MOST_STEPS, check_page, check_site, check_trail_of, is_walk, trails_up_to
from breadcrumbs.trails import trail_after


def count_walks(site, trail, steps):
    """Return the number of walks with the trail and so many steps."""
    check_site(site)
    check_trail_of(site, trail)
    check_number(steps, 0, MOST_STEPS)
    spare = steps + 1 - len(trail)
    if spare < 0:
        return 0
    return loop_numbers(site, trail, spare)[spare]


def nth_walk(site, trail, steps, index):
    """Return the walk with this index among those with the trail and so many steps."""
    check_site(site)
    check_trail_of(site, trail)
    check_number(steps, 0, MOST_STEPS)
    moves = _moves(site, trail)
    ways = _ways(moves, trail, steps)
    state = (trail[0], 1)
    check_number(index, 0, ways[steps][state] - 1)
    walk = [trail[0]]
    for left in reversed(range(steps)):
        place, index = place_of([ways[left][move] for move in moves[state]], index)
        state = moves[state][place]
        walk.append(state[0])
    return walk


def walk_rank(site, walk):
    """Return the index of the walk among those with its trail and its steps."""
    if not is_walk(site, walk):
        raise InvalidVisitsError("not a walk on the site")
    trail = trail_after(walk)
    steps = len(walk) - 1
    moves = _moves(site, trail)
    ways = _ways(moves, trail, steps)
    state = (walk[0], 1)
    rank = 0
    for left, page in zip(reversed(range(steps)), walk[1:]):
        rank += sum([ways[left][move] for move in moves[state] if move[0] < page])
        state = _moved(trail, state, page)
    return rank


def count_from(site, page, steps):
    """Return the number of all walks from the page with so many steps."""
    check_site(site)
    check_page(site, page)
    check_number(steps, 0, MOST_STEPS)
    ways = [1] * len(site)
    for _ in range(steps):
        ways = one_step_more(site, ways)
    return ways[page]


def trails_with(site, page, steps):
    """Yield a tuple (trail, number) for each trail of walks from the page with so many steps."""
    check_site(site)
    check_page(site, page)
    check_number(steps, 0, MOST_STEPS)
    # A copy, because the caller may change the site between two results.
    links = [list(row) for row in site]
    # Loop numbers depend on the set of the pages only, so they are kept by it:
    # there are far more trails than sets.
    known = {(): [1] + [0] * steps}
    most = steps + 1
    for trail in trails_up_to(links, page, most):
        pages = tuple(sorted(trail))
        if pages not in known:
            before = trail[:-1]
            part = count_closed(links, trail[-1], before, steps)
            known[pages] = joined_numbers(known[tuple(sorted(before))], part)
        number = known[pages][most - len(trail)]
        if number > 0:
            yield (trail, number)


def _moves(site, trail):
    """Return the states to which the links lead from each state, in ascending order.

    A state is a tuple (page, kept): the page where a walk is, and how many of the first
    pages of the trail are the first ones of the walk's own trail. The pages behind these
    do not matter, as a later visit of a kept page must remove them in any case.
    """
    moves = {}
    waiting = [(trail[0], 1)]
    while waiting:
        state = waiting.pop()
        if state not in moves:
            moves[state] = [_moved(trail, state, after) for after in site[state[0]]]
            waiting.extend(moves[state])
    return moves


def _moved(trail, state, after):
    """Return the state behind a step to a page."""
    page, kept = state
    # Only from the last one of the kept pages does a step put the next one behind them.
    within = trail[:kept + 1] if page == trail[kept - 1] else trail[:kept]
    if after in within:
        return (after, within.index(after) + 1)
    return (after, kept)


def _ways(moves, trail, steps):
    """Return for 0 to so many steps, by states, the numbers of ways to end with the trail."""
    goal = (trail[-1], len(trail))
    ways = [{state: 1 if state == goal else 0 for state in moves}]
    for _ in range(steps):
        numbers = ways[-1]
        ways.append({state: sum([numbers[after] for after in afters]) for state, afters in moves.items()})
    return ways
