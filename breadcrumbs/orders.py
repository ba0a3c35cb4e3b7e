"""Orders: the trails of a site, and those of them that have the same pages."""

from breadcrumbs.checks import check_number, place_of
from breadcrumbs.sites import check_page, check_pages, check_site, check_trail_of, trails_up_to

# Each number of ways has so many bits: there are at most 12! of them.
_BITS = 32


def trails_from(site, page):
    """Yield the trails of the site that begin with the page, in list order."""
    check_site(site)
    check_page(site, page)
    # A copy, because the caller may change the site between two results.
    links = [list(row) for row in site]
    most = len(links)
    yield from trails_up_to(links, page, most)


def count_trails(site, page):
    """Return the number of the trails of the site that begin with the page."""
    check_site(site)
    check_page(site, page)
    ways = _ways_through(site)
    return sum([_number_at(packed, page) for behind, packed in enumerate(ways) if not _has(behind, page)])


def count_orders(site, pages):
    """Return the number of the trails of the site that have exactly these pages."""
    check_site(site)
    check_pages(site, pages)
    ways = _ways_through(_site_of(site, sorted(pages)))
    return sum(_numbers_behind(ways, len(ways) - 1, list(range(len(pages)))))


def nth_order(site, pages, index):
    """Return the trail with this index among those that have exactly these pages."""
    check_site(site)
    check_pages(site, pages)
    names = sorted(pages)
    links = _site_of(site, names)
    ways = _ways_through(links)
    left = len(ways) - 1
    afters = list(range(len(names)))
    check_number(index, 0, sum(_numbers_behind(ways, left, afters)) - 1)
    order = []
    while left != 0:
        place, index = place_of(_numbers_behind(ways, left, afters), index)
        page = afters[place]
        order.append(names[page])
        left -= 1 << page
        afters = links[page]
    return order


def order_rank(site, trail):
    """Return the index of the trail among those that have exactly its pages."""
    check_site(site)
    check_trail_of(site, trail)
    names = sorted(trail)
    links = _site_of(site, names)
    ways = _ways_through(links)
    rank = 0
    left = len(ways) - 1
    afters = list(range(len(names)))
    for name in trail:
        page = names.index(name)
        numbers = _numbers_behind(ways, left, afters)
        rank += sum(numbers[:afters.index(page)])
        left -= 1 << page
        afters = links[page]
    return rank


def _site_of(site, names):
    """Return the site of the named pages alone, which get the pages from 0 on in their place."""
    return [[page for page, name in enumerate(names) if name in site[source]] for source in names]


def _ways_through(links):
    """Return for each set of pages the numbers of ways through exactly these pages.

    A set is an integer with a bit for each page. A way sets out from a page that is not
    in the set, and there is a number for each such page. These numbers stand side by side
    in one integer, as that makes it possible to add to all of them at once.
    """
    many = len(links)
    entries = [sum([1 << (_BITS * source) for source in range(many) if page in links[source]]) for page in range(many)]
    ways = [sum([1 << (_BITS * page) for page in range(many)])]
    for pages in range(1, 1 << many):
        packed = 0
        for page, entry in enumerate(entries):
            if _has(pages, page):
                packed += _number_at(ways[pages - (1 << page)], page) * entry
        ways.append(packed)
    return ways


def _numbers_behind(ways, left, afters):
    """Return for each page that may come next in how many ways the pages left can be taken from it on."""
    return [_number_at(ways[left - (1 << page)], page) if _has(left, page) else 0 for page in afters]


def _number_at(packed, page):
    return (packed >> (_BITS * page)) & ((1 << _BITS) - 1)


def _has(pages, page):
    return (pages >> page) & 1 == 1
