"""The interface: every name, its file, its arguments, and its classes."""

import importlib
import inspect
import unittest

FUNCTIONS = {
    "leaps": {"eight": ["leap"], "place_of": ["leap", "counts"], "behind": ["leap", "counts", "many"]},
    "ways": {"told": ["leap", "place"]},
    "knights": {"fewest": ["place"], "shortest": ["place"], "places": ["many"], "within": ["many"]},
}


def module(name):
    return importlib.import_module("leapways." + name)


class Interface(unittest.TestCase):
    def test_functions_stand_in_their_files_with_their_arguments(self):
        for file, functions in FUNCTIONS.items():
            for name, arguments in functions.items():
                with self.subTest(name):
                    function = getattr(module(file), name)
                    self.assertTrue(inspect.isfunction(function))
                    self.assertEqual(function.__module__, "leapways." + file)
                    self.assertEqual(list(inspect.signature(function).parameters), arguments)

    def test_errors(self):
        errors = module("errors")
        self.assertEqual(errors.LeapError.__bases__, (ValueError,))
        for name in ("BadLeap", "BadPlace", "BadCount"):
            self.assertEqual(getattr(errors, name).__bases__, (errors.LeapError,))
            self.assertEqual(getattr(errors, name).__module__, "leapways.errors")

    def test_answers(self):
        answers = module("answers")
        self.assertEqual(answers.Answer.__bases__, (object,))
        for kind, field, worth in ((answers.Way, "counts", [0] * 8), (answers.Never, "by", 2)):
            self.assertEqual(kind.__bases__, (answers.Answer,))
            self.assertEqual(kind.__module__, "leapways.answers")
            self.assertEqual(list(inspect.signature(kind).parameters), [field])
            self.assertEqual(vars(kind(worth)), {field: worth})
            self.assertEqual(vars(kind(**{field: worth})), {field: worth})
            self.assertEqual(list(inspect.signature(vars(kind)["shows"]).parameters), ["self", "leap", "place"])

    def test_arguments_by_name(self):
        counts = [1, 0, 0, 0, 0, 0, 0, 0]
        self.assertEqual(len(module("leaps").eight(leap=(1, 2))), 8)
        self.assertEqual(module("leaps").place_of(leap=(1, 2), counts=counts), (1, 2))
        self.assertEqual(module("leaps").behind(leap=(1, 2), counts=counts, many=0), (0, 0))
        self.assertIs(module("ways").told(leap=(1, 2), place=(3, 4)).shows(leap=(1, 2), place=(3, 4)), True)
        self.assertEqual(module("knights").fewest(place=(1, 2)), 1)
        self.assertEqual(module("knights").shortest(place=(1, 2)).counts, counts)
        self.assertEqual(module("knights").places(many=1), 8)
        self.assertEqual(module("knights").within(many=1), 9)
