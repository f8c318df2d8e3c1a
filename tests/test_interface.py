"""The interface: the names and the order of the arguments as they are promised."""

import importlib
import inspect
import unittest

INTERFACE = {
    "overlaid.borders": {
        "borders": ["text"],
        "periods": ["text"],
        "lies_at": ["text", "word"],
    },
    "overlaid.covers": {
        "covered": ["text", "word"],
        "all_covers": ["text"],
        "shortest_cover": ["text"],
        "is_bare": ["text"],
        "is_laying": ["text", "word", "places"],
        "fewest_layings": ["text", "word"],
        "how_many_layings": ["text", "word"],
    },
    "overlaid.beginnings": {
        "shortest_covers": ["text"],
        "greatest_covers": ["text"],
        "cover_tree": ["text"],
        "how_many_covers": ["text"],
        "most_covers": ["text"],
        "covered_beginnings": ["text", "word"],
    },
    "overlaid.rests": {
        "rest_behind": ["text", "word"],
        "rest_ahead": ["text", "word"],
        "rest_both": ["text", "word"],
        "beginnings_with_rest": ["text"],
        "ends_with_rest": ["text"],
        "pieces_with_rests": ["text"],
        "shown_with_rests": ["text", "word"],
    },
    "overlaid.bare": {
        "how_covered": ["text", "word"],
        "most_covering": ["text", "many"],
        "length_for": ["text", "many"],
    },
    "overlaid.wrong": {
        "shifts": ["word"],
        "chain_cost": ["text", "word", "chain"],
        "fewest_wrong": ["text", "word"],
        "nearest_piece": ["text", "many"],
    },
    "overlaid.counted": {
        "count_covered": ["word", "length"],
        "number_of": ["word", "text"],
        "text_at": ["word", "length", "number"],
        "length_of": ["word", "many"],
    },
    "overlaid.rounds": {
        "round_covered": ["text", "word"],
        "round_covers": ["text"],
        "shortest_round": ["text"],
    },
    "overlaid.desk": {
        "Desk": [],
    },
}


class Interface(unittest.TestCase):
    def test_names_and_arguments(self):
        for module, deeds in INTERFACE.items():
            for name, arguments in deeds.items():
                deed = getattr(importlib.import_module(module), name)
                self.assertEqual(list(inspect.signature(deed).parameters), arguments, name)
                self.assertEqual(deed.__module__, module)

    def test_the_desk(self):
        made = importlib.import_module("overlaid.desk").Desk
        self.assertTrue(inspect.isclass(made))
        self.assertEqual(list(inspect.signature(made().say).parameters), ["row"])


if __name__ == "__main__":
    unittest.main()
