"""The interface: names, arguments, and the file in which each is defined."""

import importlib
import inspect
import unittest

HERE = "house company standing"
TWO = "house company one other"
FUNCTIONS = {
    "walks": {"is_walk": "house thing", "shrunk": "walk", "turned": "walk", "behind": "one other"},
    "rings": {"core": "walk", "named": "walk", "root": "walk", "led_by": "walk lead", "leader": "house one other",
              "go_together": "one other"},
    "spelling": {"count_walks": "house one other steps", "all_rings": "house steps", "spare_doors": "house",
                 "spelled": "house walk", "read_off": "house room spelling"},
    "company": {"is_rope_walk": "company thing"},
    "standings": {"is_standing": "house company thing", "goings": HERE, "gone": HERE + " row",
                  "read": "standing rope_walk"},
    "taut": {"is_taut": "standing rope_walk", "goes_on": "company standing rope_walk", "held": HERE,
             "held_paper": HERE + " folk", "shows_held": HERE + " folk thing"},
    "wants": {"wants": HERE + " folk room", "bars": HERE + " folk room thing"},
    "leads": {"is_lead": TWO + " thing", "spread": TWO + " folk walk", "all_leads": TWO + " folk"},
    "orders": {"ahead": "house company one lead", "count_rows": "house company one lead",
               "row_at": "house company one lead number"},
    "papers": {"paper": TWO, "is_paper": TWO + " thing"},
    "ways": {"is_led": TWO, "fewest": TWO, "way_to": TWO, "lead_to": TWO, "least_of": TWO + " folk"},
    "tension": {"tension": "standing rope_walk", "rope_rings": "company folk", "slack": "standing rope_walk"},
    "meeting": {"meetings": HERE, "meet": HERE + " room"},
    "lots": {"lots": "house company", "standings_of": "house company", "lot": HERE},
    "changed": {"tied": "company one other", "cut": "company one other", "posted": "company folk",
                "freed": "company folk", "together": "one other ropes", "with_door": "house one other",
                "without_door": "house one other"},
    "named": {"named_house": "house names", "named_company": "company names",
              "named_standing": "standing names rooms"},
    "folds": {"is_fold": "above below thing", "lifted_walk": "above below fold room walk",
              "lowered": "fold standing", "lifted": "above below fold company standing folk room"},
    "balls": {"ball": "house room steps"},
    "texts": {"show_hall": "hall", "read_hall": "text"},
}
CLASSES = {
    ("house", "House"): {"__init__": "self rooms doors", "__eq__": "self other", "rooms": "self", "doors": "self",
                         "beside": "self room", "parts": "self", "steps": "self one other", "way": "self one other"},
    ("company", "Company"): {"__init__": "self folk ropes posts", "__eq__": "self other", "folk": "self",
                             "ropes": "self", "posts": "self", "roped": "self folk", "lots": "self"},
    ("hall", "Hall"): {"__init__": "self house company standing", "__eq__": "self other", "go": "self folk room",
                       "tie": "self one other", "cut": "self one other", "post": "self folk", "free": "self folk",
                       "house": "self", "company_at": "self moment", "standing_at": "self moment", "acts": "self",
                       "back": "self", "on": "self", "can": "self other", "home": "self", "wants": "self folk room",
                       "often": "self", "trail": "self folk"},
}
DEFAULTS = {("Company", "__init__"): {"posts": ()}, ("Hall", "company_at"): {"moment": None},
            ("Hall", "standing_at"): {"moment": None}}


def arguments(function):
    return list(inspect.signature(function).parameters)


def defaults(function):
    told = inspect.signature(function).parameters
    return {name: told[name].default for name in told if told[name].default is not inspect.Parameter.empty}


class Interface(unittest.TestCase):
    def test_functions(self):
        for name, functions in FUNCTIONS.items():
            module = importlib.import_module("tautropes." + name)
            for word, names in functions.items():
                function = vars(module)[word]
                self.assertEqual(function.__module__, module.__name__, word)
                self.assertEqual(arguments(function), names.split(), word)
                self.assertEqual(defaults(function), {}, word)

    def test_classes(self):
        for (name, word), methods in CLASSES.items():
            module = importlib.import_module("tautropes." + name)
            made = vars(module)[word]
            self.assertEqual(made.__module__, module.__name__, word)
            for method, names in methods.items():
                self.assertEqual(arguments(vars(made)[method]), names.split(), method)
                self.assertEqual(defaults(vars(made)[method]), DEFAULTS.get((word, method), {}), method)


if __name__ == "__main__":
    unittest.main()
