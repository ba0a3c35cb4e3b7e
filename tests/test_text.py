"""Sites, trails and effects as strings: [26]."""

import itertools
import random
import re
import unittest

from breadcrumbs.errors import (InvalidEffectError, InvalidFormatError, InvalidSiteError, InvalidTrailError,
                                InvalidVisitsError)
from breadcrumbs.exits import Effect, effect_of, nth_effect
from breadcrumbs.text import (format_effect, format_site, format_trail, listed, parse_effect, parse_site,
                              parse_trail)
from tests.helper import (FULL, LONG, NO_SITES, NO_STRINGS, NO_TRAILS, NO_VISITS, NOT_EFFECTS, SITES, CallTest, S, V,
                          drawn_sites, simulated, small_sites, small_visits, some_visits)

PAGE = "(0|[1-9][0-9]?)"
CHAIN = Effect(3, [(page, page + 1) for page in range(39)] + [(39, 39)])
STAR = Effect(7, [(page, 7) for page in range(40)])
EFFECTS = [Effect(None, []), Effect(0, [(0, 0)]), Effect(39, [(39, 39)]), effect_of(V), effect_of(LONG), CHAIN, STAR]
TRAILS = [[], [0], [39], [3, 1, 2], [9, 10], list(range(40)), list(range(39, -1, -1))]

# These are wrong for each kind of string: as they are, or behind or before another one.
NO_TEXTS = [" ", "  ", "\n", "\t", "x", "-1", "+1", "-0", "00", "01", "040", "1.0", "1e1", "1_0", "0x1", "None", ",",
            ";", ":", ">", "; ", " > ", "'0'", "[0]", "~", "!", "0 0", "0,1", "40", "100", "0" * 3000, "1" * 4000,
            " " * 3000, "0 " * 2000, " > " * 1000, "0 > " * 1000, "; " * 2000, "0: " * 1000, "0;" * 2000, "> " * 2000,
            "0; " + "0>0 " * 900, "0:" + " 1" * 1900 + "; 1:", "x" * 4000, "\n" * 4000, "0: 1; 1: 0; " * 300]

NO_TRAIL_TEXTS = [*NO_TEXTS, "0 >", "> 0", "0 > ", " > 0", "0>1", "0 >1", "0> 1", "0  > 1", "0 >  1", "0 > 1 ",
                  " 0 > 1", "0 > 1\n", "\n0 > 1", "0\n>\n1", "0 > > 1", "0 >> 1", "0 < 1", "0 - 1", "0, 1", "0; 1",
                  "0 1", "0 > 0", "0 > 1 > 0", "39 > 39", "40", "0 > 40", "40 > 0", "0 > 99", "0 > 100", "0 > 01",
                  "00 > 1", "0 > -1", "0 > 1.", "0 > x", "0 > 1 > ", "0:", "0; 0>0", "0: 1; 1:", "7 > 07",
                  " > ".join(str(page) for page in range(41)), " > ".join(["0"] * 1000)]

NO_SITE_TEXTS = [*NO_TEXTS, "", "0", "1:", "0 :", "0: ", " 0:", "0:\n", "\n0:", "0: 0", "0: 1", "0: -1", "0:;", "0:; ",
                 "; 0:", "0:;1:", "0:;  1:", "0:  ; 1:", "0: ; 1:", "0:; 1: ", "0:; 1", "0; 1:", "0:: 1; 1:", "0:1; 1:",
                 "0:  1; 1:", "0: 1 ; 1:", "0: 1;1: 0", "0: 1; 1: 1", "0: 1; 1: 2", "0: 01; 1:", "00: 1; 1:",
                 "0: 1; 01:", "0: 1; 2: 0", "1: 0; 0: 1", "0: 1; 0: 1", "0: 1 1; 1:", "0: 2 1; 1:; 2:",
                 "0: 1, 2; 1:; 2:", "0: 1 2 1; 1:; 2:", "0: 1  2; 1:; 2:", "0: x; 1:", "x: 1; 1:", "0: 1, 1: 0",
                 "0: 1\n1: 0", "0: 1:; 1:", "0: 1;; 1:", "0: 1; ; 1:", "0: 1; 1: 0;", "0: 1; 1: 0; ", "0: 1; 1: 0 ",
                 " 0: 1; 1: 0", "0: 1; 1: 0\n", "0: 1; 1: 39", "0: 40; 1:", "-0: 1; 1:", "0: 1; 1: 0.", "0 > 1", "0; 0>0", "0: >1; 1:",
                 "; ".join(f"{page}:" for page in range(13)),
                 "; ".join(f"{page}: {(page + 1) % 13}" for page in range(13)),
                 "; ".join(f"{page}: {page - 1}" for page in range(1, 13)),
                 "; ".join(f"{page}:" for page in range(1, 13))]

NO_EFFECT_TEXTS = [*NO_TEXTS, "0", "0;", "0; ", "; 0>0", " 0; 0>0", "0; 0>0 ", "0; 0>0\n", "\n0; 0>0", "0;0>0",
                   "0;  0>0", "0 ; 0>0", "0; 0 > 0", "0; 0> 0", "0; 0 >0", "0: 0>0", "0, 0>0", "0 0>0", "0;; 0>0",
                   "0; 0>0;", "0; ; 0>0", "00; 0>0", "0; 00>0", "0; 0>00", "0; 01>01", "1; 0>0", "x; 0>0", "0; x>0",
                   "0; 0>x", "0; 0>", "0; >0", "0; >", "0; 0>0>0", "0; 0>>0", "0; 0-0", "0; 0<0", "0; 0", "0; (0, 0)",
                   "0; 0>1", "0; 0>1 1>0", "0; 0>0 1>1", "0; 1>1 0>1", "0; 0>1  1>1", "0; 0>1 1>1 ", "0; 0>1, 1>1",
                   "0; 0>1; 1>1", "0; 0>1 0>1 1>1", "0; 0>0 0>0", "0; 0>0 1>2 2>1", "2; 0>1 1>1", "0; 0>1 2>2",
                   "40; 40>40", "0; 0>0 40>0", "0; 0>40", "-1; -1>-1", "0; 0>0 1>-1", "None;", "None; 0>0", "None",
                   "0 > 1", "0:", "0: 1; 1:", "; ", "; 0>1 1>1"]


def site_matches(text):
    """The site of a string by a pattern, or None."""
    if not re.fullmatch(f"{PAGE}:( {PAGE})*(; {PAGE}:( {PAGE})*)*", text):
        return None
    parts = [part.split(":") for part in text.split(";")]
    site = [[int(word) for word in words.split()] for _, words in parts]
    fits = [int(page) for page, _ in parts] == list(range(len(site))) and len(site) <= 12
    fits = fits and all(row == sorted(set(row)) and page not in row and all(after < len(site) for after in row)
                        for page, row in enumerate(site))
    return site if fits else None


def trail_matches(text):
    """The trail of a string by a pattern, or None."""
    if not re.fullmatch(f"({PAGE}( > {PAGE})*)?", text):
        return None
    trail = [int(word) for word in re.findall("[0-9]+", text)]
    return trail if len(set(trail)) == len(trail) and max(trail, default=0) < 40 else None


def effect_matches(text):
    """The first page and the exits of the effect of a string by a pattern, or None."""
    if text == "":
        return (None, [])
    if not re.fullmatch(f"{PAGE};( {PAGE}>{PAGE})+", text):
        return None
    first, *numbers = [int(word) for word in re.findall("[0-9]+", text)]
    exits = list(zip(numbers[::2], numbers[1::2]))
    pages = [page for page, _ in exits]
    lasts = [page for page, target in exits if page == target]
    if pages != sorted(set(pages)) or max(numbers) >= 40 or first not in pages or len(lasts) != 1:
        return None
    ends = pages
    for _ in pages:
        ends = [dict(exits).get(page) for page in ends]
    return (first, exits) if set(ends) == set(lasts) else None


def changed(drawn, text):
    """The string with some small change."""
    at = drawn.randrange(len(text) + 1)
    word = drawn.choice(["", "", *"0123456789 >;:,\n", " > ", "; ", ": ", "  "])
    return text[:at] + word + text[at + drawn.randrange(3):]


def parts(effect):
    return None if effect is None else (effect.first, effect.exits)


class ReadTest(CallTest):
    """Reads strings, and compares with patterns."""

    def check_read(self, parse, write, told, text):
        if told is None:
            self.check_error(InvalidFormatError, parse, text)
        else:
            found = parse(text)
            self.check_same(told, parts(found) if isinstance(found, Effect) else found)
            self.check_same(text, write(found))

    def check_all(self, parse, matches, signs, size):
        """Reads all strings of at most so many of these signs."""
        count = 0
        for many in range(size + 1):
            for chosen in itertools.product(signs, repeat=many):
                text = "".join(chosen)
                told = matches(text)
                count += told is not None
                try:
                    found = parse(text)
                except InvalidFormatError:
                    found = None
                found = parts(found) if parse is parse_effect else found
                if found != told:
                    self.fail(f"{text!r}: {found} instead of {told}")
        self.assertGreater(count, 1)

    def test_all_short_trails(self):
        self.check_all(parse_trail, trail_matches, "014 >", 6)
        self.check_all(parse_trail, trail_matches, ["0", "1", " > ", " ", "39"], 6)

    def test_all_short_sites(self):
        self.check_all(parse_site, site_matches, "01: ;", 6)
        self.check_all(parse_site, site_matches, ["0:", "1:", "; ", " ", "1", " 0"], 6)

    def test_all_short_effects(self):
        self.check_all(parse_effect, effect_matches, "01; >", 6)
        self.check_all(parse_effect, effect_matches, ["0;", "1;", " ", "0>1", " 1>1", " 0>0"], 6)

    def test_changed_strings(self):
        drawn = random.Random(26)
        sites = [format_site(site) for site in [*SITES, *drawn_sites(4, 3), *drawn_sites(12, 3)]]
        trails = [format_trail(trail) for trail in TRAILS] + ["0 > 1", "7 > 0 > 38", "10 > 1 > 11"]
        effects = [format_effect(effect) for effect in [*EFFECTS, nth_effect(4, 100), nth_effect(12, 10 ** 9)]]
        for texts, parse, write, matches in ((sites, parse_site, format_site, site_matches),
                                             (trails, parse_trail, format_trail, trail_matches),
                                             (effects, parse_effect, format_effect, effect_matches)):
            for text in texts:
                self.check_read(parse, write, matches(text), text)
                for _ in range(200):
                    other = changed(drawn, text)
                    self.check_read(parse, write, matches(other), other)


class SiteTest(CallTest):
    def test_document(self):
        self.check_call("0: 1 2; 1: 0 2; 2: 0 3; 3: 0", format_site, site=S)
        self.check_call([[1], []], parse_site, text="0: 1; 1:")
        self.check_call([[1], [0, 2], []], parse_site, text="0: 1; 1: 0 2; 2:")
        self.check_call("0: 1; 1: 0 2; 2:", format_site, site=[[1], [0, 2], []])

    def test_edges(self):
        empty = "0:; 1:; 2:; 3:; 4:; 5:; 6:; 7:; 8:; 9:; 10:; 11:"
        full = ("0: 1 2 3 4 5 6 7 8 9 10 11; 1: 0 2 3 4 5 6 7 8 9 10 11; 2: 0 1 3 4 5 6 7 8 9 10 11; "
                "3: 0 1 2 4 5 6 7 8 9 10 11; 4: 0 1 2 3 5 6 7 8 9 10 11; 5: 0 1 2 3 4 6 7 8 9 10 11; "
                "6: 0 1 2 3 4 5 7 8 9 10 11; 7: 0 1 2 3 4 5 6 8 9 10 11; 8: 0 1 2 3 4 5 6 7 9 10 11; "
                "9: 0 1 2 3 4 5 6 7 8 10 11; 10: 0 1 2 3 4 5 6 7 8 9 11; 11: 0 1 2 3 4 5 6 7 8 9 10")
        for site, text in (([[]], "0:"), ([[], []], "0:; 1:"), ([[], [0]], "0:; 1: 0"), ([[1], [0]], "0: 1; 1: 0"),
                           ([[] for _ in range(12)], empty), (FULL, full)):
            self.check_call(text, format_site, site=site)
            self.check_call(site, parse_site, text=text)

    def test_there_and_back(self):
        sites = [*SITES, *small_sites(1), *small_sites(2), *small_sites(3), *drawn_sites(5, 3), *drawn_sites(12, 3)]
        for site in sites:
            self.check_same(site, parse_site(format_site(site)))
        self.assertEqual(len({format_site(site) for site in small_sites(3)}), 64)

    def test_errors(self):
        self.check_wrong(format_site, {"site": S}, [("site", InvalidSiteError, NO_SITES)])
        self.check_wrong(parse_site, {"text": "0:"}, [("text", InvalidFormatError, [*NO_STRINGS, *NO_SITE_TEXTS])])


class TrailTest(CallTest):
    def test_document(self):
        self.check_call("0 > 2", format_trail, trail=[0, 2])
        self.check_call([7, 0], parse_trail, text="7 > 0")

    def test_edges(self):
        full = " > ".join(str(page) for page in range(40))
        for trail, text in (([], ""), ([0], "0"), ([39], "39"), ([10, 1, 0], "10 > 1 > 0"), (list(range(40)), full)):
            self.check_call(text, format_trail, trail=trail)
            self.check_call(trail, parse_trail, text=text)

    def test_there_and_back(self):
        trails = [list(trail) for size in range(5) for trail in itertools.permutations([0, 1, 9, 10, 39], size)]
        for trail in [*TRAILS, *trails]:
            self.check_same(trail, parse_trail(format_trail(trail)))
        self.assertEqual(len({format_trail(trail) for trail in trails}), len(trails))

    def test_errors(self):
        self.check_wrong(format_trail, {"trail": [0]}, [("trail", InvalidTrailError, NO_TRAILS)])
        self.check_wrong(parse_trail, {"text": "0"}, [("text", InvalidFormatError,
                                                       [*NO_STRINGS, *NO_TRAIL_TEXTS])])


class EffectTest(CallTest):
    def test_document(self):
        self.check_call("0; 0>1 1>1 2>3 3>0", format_effect, effect=effect_of(V))
        self.check_call(Effect(5, [(5, 5)]), parse_effect, text="5; 5>5")
        self.check_same([(5, 5)], parse_effect("5; 5>5").exits)

    def test_edges(self):
        chain = "3; " + " ".join(f"{page}>{page + 1}" for page in range(39)) + " 39>39"
        star = "7; " + " ".join(f"{page}>7" for page in range(40))
        for effect, text in ((Effect(None, []), ""), (Effect(0, [(0, 0)]), "0; 0>0"), (CHAIN, chain), (STAR, star),
                             (Effect(39, [(39, 39)]), "39; 39>39"),
                             (Effect(10, [(9, 10), (10, 10)]), "10; 9>10 10>10")):
            self.check_call(text, format_effect, effect=effect)
            self.check_call(effect, parse_effect, text=text)
            self.check_same((effect.first, effect.exits), parts(parse_effect(text)))

    def test_there_and_back(self):
        drawn = random.Random(27)
        for many in (1, 2, 3, 12, 40):
            for index in [drawn.randrange(many ** many) for _ in range(40)]:
                effect = nth_effect(many, index)
                self.assertEqual(parse_effect(format_effect(effect)), effect)
        for visits in some_visits():
            self.assertEqual(parse_effect(format_effect(effect_of(visits))), effect_of(visits))

    def test_equal_exactly_if_the_strings_are(self):
        effects = [effect_of(visits) for visits in small_visits()[:130]] + EFFECTS
        for one in effects:
            for two in effects:
                self.assertIs(one == two, format_effect(one) == format_effect(two))

    def test_errors(self):
        self.check_wrong(format_effect, {"effect": effect_of(V)}, [("effect", InvalidEffectError, NOT_EFFECTS)])
        self.check_wrong(parse_effect, {"text": "0; 0>0"},
                         [("text", InvalidFormatError, [*NO_STRINGS, *NO_EFFECT_TEXTS])])


class ListedTest(CallTest):
    def test_document(self):
        self.check_call(["  0   0  0", "  1   1  0 > 1", "  2   0  0"], listed, visits=[0, 1, 0])

    def test_edges(self):
        self.check_call([], listed, visits=[])
        self.check_call(["  0  39  39"], listed, visits=[39])
        rows = listed([7, 39] * 150)
        self.assertEqual(len(rows), 300)
        for index, row in ((0, "  0   7  7"), (1, "  1  39  7 > 39"), (9, "  9  39  7 > 39"), (10, " 10   7  7"),
                           (99, " 99  39  7 > 39"), (100, "100   7  7"), (299, "299  39  7 > 39")):
            self.assertEqual(rows[index], row)
        self.assertEqual(listed(list(range(40)))[-1], " 39  39  " + " > ".join(str(page) for page in range(40)))

    def test_definition(self):
        for visits in [*small_visits(), *some_visits(), LONG]:
            told = []
            for index, page in enumerate(visits):
                trail = " > ".join(str(other) for other in simulated(visits[:index + 1]))
                places = " " * (3 - len(str(index))) + str(index) + " " * (4 - len(str(page))) + str(page)
                told.append(places + "  " + trail)
            self.check_same(told, listed(visits))

    def test_errors(self):
        self.check_wrong(listed, {"visits": V}, [("visits", InvalidVisitsError, NO_VISITS)])


if __name__ == "__main__":
    unittest.main()
