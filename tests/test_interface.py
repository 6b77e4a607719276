"""The interface: names, parameter names and the file of each function and class."""

import ast
import importlib
import inspect
import pathlib
import unittest

from bothreaders import streams

PACKAGE = pathlib.Path(__file__).resolve().parent.parent / "bothreaders"

FUNCTIONS = {
    "formats": {"is_format": ["value"], "is_file": ["form", "value"], "stand_behind": ["form", "beginning"],
                "stands": ["form"]},
    "readers": {"read": ["form", "file"], "refusal": ["form", "file"], "looked_at": ["form", "file"],
                "is_content": ["form", "value"], "write": ["form", "content"]},
    "files": {"count_files": ["form", "length"], "nth_file": ["form", "length", "index"], "file_index": ["form", "file"],
              "alike": ["one", "other"], "parting": ["one", "other"]},
    "commons": {"common": ["one", "other"], "count_common": ["one", "other", "length"], "table": ["one", "other"],
                "is_table": ["one", "other", "value"], "doomed": ["formats", "file"], "completion": ["formats", "beginning"],
                "refused_by": ["one", "other"]},
    "faces": {"unlike": ["one", "other"], "lost": ["one", "other"], "safe_pairs": ["formats"],
              "two_faced": ["one", "other", "content", "told"], "relayed": ["one", "other"]},
    "washing": {"washed": ["one", "other", "file"], "dressed": ["one", "other", "file"],
                "dressed_as": ["one", "other", "file", "content"], "steady": ["one", "other", "file"],
                "hanging": ["one", "other", "file"]},
    "washers": {"stubborn": ["one", "other"], "count_stubborn": ["one", "other", "length"], "washing_table": ["one", "other"],
                "is_washing_table": ["one", "other", "value"]},
    "texts": {"show_format": ["form"], "parse_format": ["text"], "show_file": ["form", "file"], "parse_file": ["form", "text"]},
}

CLASSES = {
    "errors": ["FileError", "InvalidFormat", "InvalidFormats", "InvalidFile", "InvalidContent", "InvalidLength",
               "InvalidIndex", "InvalidText", "InvalidSign", "InvalidMark", "InvalidNumber", "OtherBase", "NothingToUndo",
               "Doomed", "TooLong", "Refused", "HasCommon", "HasStubborn"],
    "objects": ["Reader", "Pair"],
    "streams": ["Stream", "StrictStream", "CappedStream", "StrictCappedStream"],
}

# What stands in the body of each class itself: methods with their arguments, and properties (None).
METHODS = {
    ("objects", "Reader"): {
        "__init__": ["self", "form"], "form": None, "signs": None, "stand": None, "told": None, "__call__": ["self", "sign"],
        "__len__": ["self"], "__eq__": ["self", "other"], "undo": ["self"], "twin": ["self"],
    },
    ("objects", "Pair"): {
        "__init__": ["self", "one", "other"], "one": None, "other": None, "__bool__": ["self"], "__contains__": ["self", "x"],
        "__eq__": ["self", "other"], "__invert__": ["self"], "__add__": ["self", "other"], "__sub__": ["self", "other"],
        "__getitem__": ["self", "at"], "__call__": ["self", "beginning"], "common": ["self"], "unlike": ["self"], "lost": ["self"],
        "stubborn": ["self"], "table": ["self"], "washed": ["self", "file"], "steady": ["self", "file"],
    },
    ("streams", "Stream"): {
        "__init__": ["self", "formats"], "formats": None, "signs": None, "left": None, "done": None, "__len__": ["self"],
        "__getitem__": ["self", "at"], "put": ["self", "sign"], "completion": ["self"], "undo": ["self"], "tell": ["self"],
        "is_valid": ["value"], "read": ["cls", "formats", "text"],
    },
    ("streams", "StrictStream"): {"__init__": ["self", "formats"]},
    ("streams", "CappedStream"): {"__init__": ["self", "formats", "most"], "most": None},
    ("streams", "StrictCappedStream"): {"__init__": ["self", "formats", "most"]},
}


def defined_in(name, kind):
    tree = ast.parse((PACKAGE / f"{name}.py").read_text(encoding="utf-8"))
    return [node.name for node in tree.body if isinstance(node, kind)]


class InterfaceTest(unittest.TestCase):

    def test_functions(self):
        for module, functions in FUNCTIONS.items():
            for name, parameters in functions.items():
                with self.subTest(module=module, name=name):
                    self.assertIn(name, defined_in(module, ast.FunctionDef))
                    found = inspect.signature(getattr(importlib.import_module(f"bothreaders.{module}"), name))
                    self.assertEqual(list(found.parameters), parameters)
                    for parameter in found.parameters.values():
                        self.assertEqual(parameter.kind, inspect.Parameter.POSITIONAL_OR_KEYWORD)
                        self.assertIs(parameter.default, inspect.Parameter.empty)

    def test_classes(self):
        for module, classes in CLASSES.items():
            for name in classes:
                with self.subTest(module=module, name=name):
                    self.assertIn(name, defined_in(module, ast.ClassDef))

    def test_methods(self):
        for (module, name), methods in METHODS.items():
            found = getattr(importlib.import_module(f"bothreaders.{module}"), name)
            for method, parameters in methods.items():
                with self.subTest(name=name, method=method):
                    value = vars(found)[method]
                    if parameters is None:
                        self.assertIsInstance(value, property)
                    else:
                        value = getattr(value, "__func__", value)
                        self.assertEqual(list(inspect.signature(value).parameters), parameters)
        self.assertIsInstance(vars(streams.Stream)["is_valid"], staticmethod)
        self.assertIsInstance(vars(streams.Stream)["read"], classmethod)
        self.assertIn("WORDS", vars(streams.Stream))

    def test_default_values(self):
        for kind in (streams.CappedStream, streams.StrictCappedStream):
            self.assertEqual(inspect.signature(kind).parameters["most"].default, 40)

    def test_base_classes(self):
        for name, above in (("Stream", "object"), ("StrictStream", "Stream"), ("CappedStream", "Stream")):
            self.assertEqual([base.__name__ for base in getattr(streams, name).__bases__], [above])
        self.assertEqual(sorted(base.__name__ for base in streams.StrictCappedStream.__bases__), ["CappedStream", "StrictStream"])

    def test_arguments_by_name(self):
        from bothreaders.formats import is_file, is_format, stand_behind, stands
        from bothreaders.readers import is_content, looked_at, read, refusal, write
        form = (4, (2,), "one", 1, ((1, "keep"),), "refuse")
        self.assertIs(is_format(value=form), True)
        self.assertIs(is_file(value=(2,), form=form), True)
        self.assertEqual(stand_behind(beginning=(2,), form=form), ("tag",))
        self.assertEqual(stands(form=form)[0], ("body", "keep", 1, 0))
        self.assertEqual(read(file=(2, 1, 0), form=form), ((1, ()),))
        self.assertEqual(refusal(file=(2, 1), form=form), (2, "short"))
        self.assertEqual(looked_at(file=(2,), form=form), [0])
        self.assertIs(is_content(value=(), form=form), True)
        self.assertEqual(write(content=((1, (3,)),), form=form), (2, 1, 1, 3))


if __name__ == "__main__":
    unittest.main()
