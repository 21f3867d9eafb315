"""Every name of the interface stands in its file, with the parameters that the document names."""

import importlib
import inspect
import unittest

FUNCTIONS = {
    "pictures": {
        "is_picture": ["value"],
        "size_of": ["picture"],
        "plain": ["rows", "columns", "value"],
        "value_at": ["picture", "y", "x"],
        "greatest_error": ["picture", "other"],
        "first_unlike": ["picture", "other"],
        "band_of": ["picture", "number"],
        "with_band": ["picture", "number", "rows"],
    },
    "picturetext": {
        "picture_text": ["picture"],
        "read_picture": ["text"],
    },
    "transforms": {
        "stepped": ["row"],
        "stepped_back": ["row"],
        "forward": ["square"],
        "backward": ["square"],
    },
    "quanta": {
        "level_of": ["c", "q"],
        "levels": ["square", "q"],
        "unlevelled": ["square", "q"],
        "place_bound": ["n", "q"],
    },
    "numbers": {
        "put_number": ["coder", "word", "v"],
        "put_signed": ["coder", "word", "v"],
        "get_number": ["decoder", "word"],
        "get_signed": ["decoder", "word"],
        "price_of": ["v"],
        "price_of_signed": ["v"],
    },
    "trees": {
        "is_band_tree": ["value", "blocks"],
        "leaves_of": ["tree"],
        "price_of_tree": ["tree"],
        "price_of_band": ["trees"],
    },
    "bands": {
        "band_octets": ["trees"],
        "read_band": ["octets", "blocks", "kind"],
    },
    "predictions": {
        "halfway": ["picture", "v", "h"],
        "predicted": ["rows", "area", "mode"],
        "moved": ["picture", "top", "area", "dy", "dx"],
    },
    "leaves": {
        "band_shown": ["trees", "top", "slots"],
    },
    "units": {
        "unit_of": ["bands", "blocks", "many", "number", "kind", "keep", "band", "trees"],
        "read_unit": ["value"],
        "check_of": ["octets"],
    },
    "streams": {
        "encoded": ["pictures", "plan", "window"],
        "shown": ["values"],
        "units_of": ["values"],
        "is_stream": ["value"],
        "kinds_of": ["units"],
    },
    "reaching": {
        "reach": ["units", "lost"],
        "reach_counts": ["units", "lost"],
        "ends_at": ["units", "number"],
        "worst_unit": ["units"],
    },
    "choices": {
        "coded_band": ["rows", "top", "slots", "kind", "bound", "window"],
        "price_paper": ["rows", "top", "slots", "kind", "window"],
        "price_holds": ["rows", "top", "slots", "kind", "window", "paper"],
    },
    "fitting": {
        "length_of": ["units", "number"],
        "fitted": ["pictures", "plan", "window", "most"],
    },
    "edits": {
        "keys_of": ["units"],
        "shown_from": ["units", "number"],
        "cut": ["units", "start", "end"],
        "joined": ["units", "other"],
        "replaced": ["units", "start", "end", "other"],
        "first_apart": ["units", "other"],
        "greatest_errors": ["units", "pictures"],
    },
    "claims": {
        "is_claim": ["value"],
        "claim_holds": ["claim", "paper"],
        "seal_claim": ["claim"],
    },
    "desk": {
        "replayed": ["lines"],
    },
}

CLASSES = {
    "errors": {
        "InvalidPicture": {"__init__": ["value"]},
        "InvalidStream": {"__init__": ["value"]},
        "InvalidPlan": {"__init__": ["value"]},
        "InvalidTree": {"__init__": ["value"]},
        "InvalidNumber": {"__init__": ["value"]},
        "InvalidClaim": {"__init__": ["value"]},
        "InvalidText": {"__init__": ["text", "at"]},
        "InvalidLine": {"__init__": ["line", "at"]},
        "Refused": {"__init__": ["claim"]},
        "NoKey": {"__init__": ["number"]},
        "TooLong": {"__init__": ["number"]},
        "UnknownName": {"__init__": ["name"]},
        "NothingToUndo": {"__init__": ["word"]},
        "Undefined": {"__init__": ["what"]},
    },
    "coders": {
        "Coder": {"__init__": [], "put": ["context", "bit"], "octets": [], "state": []},
        "Decoder": {"__init__": ["octets"], "get": ["context"], "state": []},
    },
    "desk": {
        "Desk": {"__init__": [], "run": ["line"]},
    },
}


def module_of(name):
    return importlib.import_module("picturetide." + name)


class Interface(unittest.TestCase):
    def assert_parameters(self, function, names):
        parameters = inspect.signature(function).parameters
        self.assertEqual(list(parameters), names)
        for parameter in parameters.values():
            self.assertIs(parameter.kind, inspect.Parameter.POSITIONAL_OR_KEYWORD)
            self.assertIs(parameter.default, inspect.Parameter.empty)

    def test_functions(self):
        for module_name, functions in FUNCTIONS.items():
            for name, names in functions.items():
                with self.subTest(module=module_name, name=name):
                    function = getattr(module_of(module_name), name)
                    self.assertTrue(inspect.isfunction(function))
                    self.assertEqual(function.__module__, "picturetide." + module_name)
                    self.assert_parameters(function, names)

    def test_classes(self):
        for module_name, classes in CLASSES.items():
            for name, methods in classes.items():
                cls = getattr(module_of(module_name), name)
                self.assertTrue(inspect.isclass(cls))
                self.assertEqual(cls.__module__, "picturetide." + module_name)
                for method, names in methods.items():
                    with self.subTest(module=module_name, name=name, method=method):
                        self.assertIn(method, vars(cls))
                        self.assert_parameters(vars(cls)[method], ["self"] + names)


if __name__ == "__main__":
    unittest.main()
