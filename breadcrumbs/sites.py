"""Sites: pages and the links between them."""

from breadcrumbs.checks import are_different_pages, are_pages, is_between
from breadcrumbs.errors import InvalidPageError, InvalidPagesError, InvalidSiteError, InvalidTrailError

MOST_PAGES = 12
MOST_STEPS = 60


def is_site(value):
    """Tell whether any value is a site."""
    if not isinstance(value, list) or not 1 <= len(value) <= MOST_PAGES:
        return False
    return all([_are_links(links, page, len(value)) for page, links in enumerate(value)])


def is_walk(site, value):
    """Tell whether any value is a walk on the site."""
    check_site(site)
    if not are_pages(value, len(site)) or not 1 <= len(value) <= MOST_STEPS + 1:
        return False
    return _is_linked(site, value)


def is_trail_of(site, value):
    """Tell whether any value is a trail of the site."""
    check_site(site)
    if not are_different_pages(value, len(site)) or len(value) == 0:
        return False
    return _is_linked(site, value)


def links_into(site, page):
    """Return the ascending list of the pages that link to the page."""
    check_site(site)
    check_page(site, page)
    return _sources(site, page)


def reached_from(site, page):
    """Return the ascending list of the pages that a walk from the page reaches."""
    check_site(site)
    check_page(site, page)
    reached = [page]
    waiting = [page]
    while waiting:
        links = site[waiting.pop()]
        for after in links:
            if after not in reached:
                reached.append(after)
                waiting.append(after)
    return sorted(reached)


def is_two_way(site):
    """Tell whether each link of the site has its reverse one."""
    check_site(site)
    return all([page in site[after] for page, links in enumerate(site) for after in links])


def reversed_site(site):
    """Return the site with all links reversed."""
    check_site(site)
    return [_sources(site, page) for page in range(len(site))]


def site_without(site, pages):
    """Return the site without the links from and to the pages."""
    check_site(site)
    check_pages(site, pages)
    return [
        [] if page in pages else [after for after in links if after not in pages]
        for page, links in enumerate(site)
    ]


def check_site(site):
    """Raise an error unless the value is a site."""
    if not is_site(site):
        raise InvalidSiteError("not a site")


def check_page(site, page):
    """Raise an error unless the value is a page of the site."""
    if not is_between(page, 0, len(site) - 1):
        raise InvalidPageError("not a page of the site")


def check_pages(site, pages):
    """Raise an error unless the value is a list of different pages of the site."""
    if not are_different_pages(pages, len(site)):
        raise InvalidPagesError("not a list of different pages of the site")


def check_trail_of(site, trail):
    """Raise an error unless the value is a trail of the site."""
    if not is_trail_of(site, trail):
        raise InvalidTrailError("not a trail of the site")


def trails_up_to(site, page, most):
    """Yield the trails of at most so many pages that begin with the page, in list order."""
    waiting = [[page]]
    while waiting:
        trail = waiting.pop()
        # A copy, because the caller may change what is yielded.
        yield list(trail)
        if len(trail) < most:
            # The trail that is taken next is the last one that waits.
            for after in reversed(site[trail[-1]]):
                if after not in trail:
                    waiting.append([*trail, after])


def _are_links(value, page, many):
    return are_pages(value, many) and value == sorted(set(value)) and page not in value


def _is_linked(site, pages):
    return all([after in site[page] for page, after in zip(pages, pages[1:])])


def _sources(site, page):
    return [source for source, links in enumerate(site) if page in links]
