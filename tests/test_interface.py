"""The interface: its names, its parameters and its files."""

import importlib
import inspect
import unittest

FUNCTIONS = {
    "sites": ["is_site(value)", "is_walk(site, value)", "is_trail_of(site, value)", "is_two_way(site)",
              "links_into(site, page)", "reached_from(site, page)", "reversed_site(site)",
              "site_without(site, pages)"],
    "trails": ["is_visits(value)", "is_trail(value)", "trail_after(visits, *, start=None)", "trails_along(visits)",
               "stays(visits)", "cuts(visits)", "visits_of(trails)"],
    "exits": ["effect_of(visits)", "nth_effect(many, index)", "same_effect(one, two)", "parting_trail(one, two)",
              "count_effects(many)", "effect_rank(effect)"],
    "lists": ["fewest_visits(effect)", "count_shortest(effect)", "shortest_rank(visits)",
              "nth_shortest(effect, index)", "is_shortest(visits)"],
    "loops": ["closed_walks(site, page, barred, most)", "loop_numbers(site, pages, most)",
              "loop_parts(site, pages, most)"],
    "walks": ["count_walks(site, trail, steps)", "walk_rank(site, walk)", "count_from(site, page, steps)",
              "nth_walk(site, trail, steps, index)", "trails_with(site, page, steps)"],
    "orders": ["trails_from(site, page)", "count_trails(site, page)", "count_orders(site, pages)",
               "order_rank(site, trail)", "nth_order(site, pages, index)"],
    "free": ["count_free(many, times, length)", "free_by_length(many, times)", "mean_length(many, times)"],
    "lengths": ["is_lengths(value)", "lengths_of(visits)", "nth_lengths(many, times, index)",
                "count_lengths(many, times)", "lengths_rank(many, lengths)", "count_visits(many, lengths)",
                "visits_rank(many, visits)", "nth_visits(many, lengths, index)"],
    "text": ["format_site(site)", "format_trail(trail)", "format_effect(effect)", "parse_site(text)",
             "parse_trail(text)", "parse_effect(text)", "listed(visits)"],
}
CLASSES = {
    "exits": ["Effect(first, exits)"],
    "live": ["Trail()", "ShortTrail(most=5)", "CountingTrail()", "ShortCountingTrail(most=5)"],
}
GENERATORS = ["trails_along", "trails_with", "trails_from"]


class InterfaceTest(unittest.TestCase):
    def test_functions_and_classes(self):
        for name, told in [*FUNCTIONS.items(), *CLASSES.items()]:
            module = importlib.import_module(f"breadcrumbs.{name}")
            for line in told:
                found = getattr(module, line.partition("(")[0])
                with self.subTest(file=name, line=line):
                    self.assertEqual(found.__name__ + str(inspect.signature(found)), line)
                    self.assertEqual(found.__module__, f"breadcrumbs.{name}")

    def test_generators(self):
        for name, told in FUNCTIONS.items():
            module = importlib.import_module(f"breadcrumbs.{name}")
            for line in told:
                word = line.partition("(")[0]
                self.assertIs(inspect.isgeneratorfunction(getattr(module, word)), word in GENERATORS)


if __name__ == "__main__":
    unittest.main()
