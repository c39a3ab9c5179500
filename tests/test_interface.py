import importlib
import inspect
import unittest

FUNCTIONS = {
    "tiewood.places": {
        "is_whole": ["thing"],
        "is_count": ["thing"],
        "is_place": ["n", "thing"],
        "top": ["n"],
        "tie_of": ["a", "b"],
    },
    "tiewood.groups": {
        "groups": ["n", "ties"],
        "steps": ["n", "ties", "a"],
        "shortest": ["n", "ties", "a", "b"],
    },
    "tiewood.rounds": {
        "is_round": ["row"],
        "turned": ["row", "a"],
        "spliced": ["row", "other", "a", "b"],
        "parted": ["row", "a", "b"],
        "way_in": ["row", "a", "b"],
    },
    "tiewood.account": {
        "credit": ["n", "ties"],
        "rises": ["trail"],
        "looks": ["trail"],
    },
}
CLASSES = {
    "tiewood.woods": {
        "Wood": {
            "__init__": ["self", "n"],
            "link": ["self", "a", "b"],
            "cut": ["self", "a", "b"],
            "joined": ["self", "a", "b"],
            "group": ["self", "a"],
            "size": ["self", "a"],
            "way": ["self", "a", "b"],
            "ties": ["self"],
        },
    },
    "tiewood.keeper": {
        "Keeper": {
            "__init__": ["self", "n"],
            "put": ["self", "a", "b"],
            "out": ["self", "a", "b"],
            "joined": ["self", "a", "b"],
            "way": ["self", "a", "b"],
            "side": ["self", "a"],
            "ties": ["self"],
            "account": ["self"],
        },
    },
    "tiewood.lightest": {
        "Lightest": {
            "__init__": ["self", "n", "weighed"],
            "out": ["self", "a", "b"],
            "joined": ["self", "a", "b"],
            "way": ["self", "a", "b"],
            "side": ["self", "a"],
            "ties": ["self"],
            "weight": ["self"],
            "account": ["self"],
        },
    },
    "tiewood.desk": {
        "Desk": {
            "__init__": ["self"],
            "say": ["self", "row"],
        },
    },
}


def arguments_of(function):
    return list(inspect.signature(function).parameters)


class Interface(unittest.TestCase):
    def test_names_and_arguments_stand_as_the_document_tells_them(self):
        for module, functions in FUNCTIONS.items():
            for name, arguments in functions.items():
                with self.subTest(module=module, name=name):
                    function = getattr(importlib.import_module(module), name)
                    self.assertEqual(arguments_of(function), arguments)

    def test_classes_and_their_methods_stand_as_the_document_tells_them(self):
        for module, classes in CLASSES.items():
            for name, methods in classes.items():
                for method, arguments in methods.items():
                    with self.subTest(module=module, name=name, method=method):
                        function = getattr(getattr(importlib.import_module(module), name), method)
                        self.assertEqual(arguments_of(function), arguments)


if __name__ == "__main__":
    unittest.main()
