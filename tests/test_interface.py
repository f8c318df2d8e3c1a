"""The interface: the names and the order of the arguments as they are promised."""

import importlib
import inspect
import unittest

INTERFACE = {
    "overlaid.borders": {
        "borders": ["text"],
        "periods": ["text"],
        "lies_at": ["text", "word"],
    },
    "overlaid.covers": {
        "covered": ["text", "word"],
        "all_covers": ["text"],
        "shortest_cover": ["text"],
        "is_bare": ["text"],
        "is_laying": ["text", "word", "places"],
        "fewest_layings": ["text", "word"],
        "how_many_layings": ["text", "word"],
    },
}


class Interface(unittest.TestCase):
    def test_names_and_arguments(self):
        for module, deeds in INTERFACE.items():
            for name, arguments in deeds.items():
                deed = getattr(importlib.import_module(module), name)
                self.assertEqual(list(inspect.signature(deed).parameters), arguments, name)
                self.assertEqual(deed.__module__, module)


if __name__ == "__main__":
    unittest.main()
