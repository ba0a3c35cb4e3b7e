"""Text: sites, trails and effects as strings."""

from breadcrumbs.checks import PAGES
from breadcrumbs.errors import InvalidEffectError, InvalidFormatError
from breadcrumbs.exits import Effect, check_effect
from breadcrumbs.sites import check_site, is_site
from breadcrumbs.trails import check_trail, is_trail, trails_along


def format_site(site):
    """Return the string of the site."""
    check_site(site)
    rows = [" ".join([f"{page}:", *_words(links)]) for page, links in enumerate(site)]
    return "; ".join(rows)


def format_trail(trail):
    """Return the string of the trail."""
    check_trail(trail)
    return " > ".join(_words(trail))


def format_effect(effect):
    """Return the string of the effect."""
    check_effect(effect)
    if effect.first is None:
        return ""
    return " ".join([f"{effect.first};", *[f"{page}>{target}" for page, target in effect.exits]])


def parse_site(text):
    """Return the site that is written as the string."""
    _check_string(text)
    pages = _pages_by_word()
    rows = [part.partition(":")[2].split(" ")[1:] for part in text.split("; ")]
    site = [[pages.get(word) for word in row] for row in rows]
    # This finds whatever was passed over above, as each site is written in one way only.
    if not is_site(site) or format_site(site) != text:
        raise InvalidFormatError("not the string of a site")
    return site


def parse_trail(text):
    """Return the trail that is written as the string."""
    _check_string(text)
    pages = _pages_by_word()
    words = text.split(" > ") if text != "" else []
    trail = [pages.get(word) for word in words]
    if not is_trail(trail):
        raise InvalidFormatError("not the string of a trail")
    return trail


def parse_effect(text):
    """Return the effect that is written as the string."""
    _check_string(text)
    pages = _pages_by_word()
    first, _, rest = text.partition(";")
    pairs = [word.partition(">") for word in rest.split(" ")[1:]]
    exits = [(pages.get(page), pages.get(target)) for page, _, target in pairs]
    try:
        effect = Effect(pages.get(first), exits)
    except InvalidEffectError:
        raise InvalidFormatError("not the string of an effect") from None
    # This finds whatever was passed over above, as each effect is written in one way only.
    if format_effect(effect) != text:
        raise InvalidFormatError("not the string of an effect")
    return effect


def listed(visits):
    """Return a string for each visit: its index, its page and the trail after it."""
    # The page that is visited always ends the trail.
    return [f"{index:>3}{trail[-1]:>4}  {format_trail(trail)}" for index, trail in enumerate(trails_along(visits))]


def _check_string(text):
    if not isinstance(text, str):
        raise InvalidFormatError("not a string")


def _words(pages):
    return [str(page) for page in pages]


def _pages_by_word():
    """Return the pages by their numbers as they are written, so that no other writing is read."""
    return {str(page): page for page in range(PAGES)}
