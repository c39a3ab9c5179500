import importlib
import inspect
import unittest

FUNCTIONS = {
    "tiewood.places": {
        "is_whole": ["thing"],
        "is_count": ["thing"],
        "is_place": ["n", "thing"],
        "top": ["n"],
        "tie_of": ["a", "b"],
    },
    "tiewood.groups": {
        "groups": ["n", "ties"],
        "steps": ["n", "ties", "a"],
        "shortest": ["n", "ties", "a", "b"],
    },
}


class Interface(unittest.TestCase):
    def test_names_and_arguments_stand_as_the_document_tells_them(self):
        for module, functions in FUNCTIONS.items():
            for name, arguments in functions.items():
                with self.subTest(module=module, name=name):
                    function = getattr(importlib.import_module(module), name)
                    self.assertEqual(list(inspect.signature(function).parameters), arguments)


if __name__ == "__main__":
    unittest.main()
