"""The names of the interface, and the form of the package's files."""

import ast
import importlib
import inspect
import pathlib
import unittest

PACKAGE = pathlib.Path(__file__).resolve().parent.parent / "samescreen"

FUNCTIONS = {
    "samescreen.screens.screen": {
        "start_screen": ("rows", "columns"),
        "is_screen": ("screen",),
        "look": ("screen",),
        "shown_text": ("screen",),
    },
    "samescreen.screens.deeds": {
        "is_deed": ("deed",),
        "carry_out": ("screen", "deed"),
        "carry_out_all": ("screen", "deeds"),
    },
    "samescreen.deeds.writing": {
        "bytes_of": ("deed",),
        "bytes_of_all": ("deeds",),
        "size_of": ("deed",),
    },
    "samescreen.deeds.meaning": {
        "deed_of_byte": ("byte",),
        "deed_of_letter": ("letter", "numbers"),
        "deed_of_sign": ("byte",),
    },
    "samescreen.reading.reader": {
        "read": ("data",),
        "spans": ("data",),
        "rest_of": ("data",),
    },
    "samescreen.moves.moves": {
        "moves_from": ("size", "band", "cursor"),
        "place_after": ("size", "band", "cursor", "moves"),
    },
    "samescreen.moves.least": {
        "least_moves": ("size", "band", "cursor", "place"),
        "move_map": ("size", "band", "cursor"),
        "check_moves": ("size", "band", "cursor", "place", "moves", "numbers"),
    },
    "samescreen.updates.steps": {
        "first_situation": ("p",),
        "steps": ("p", "q", "situation"),
    },
    "samescreen.updates.plans": {
        "least_size": ("p", "q"),
        "told_plan": ("p", "q"),
        "told_update": ("p", "q"),
        "plan_deeds": ("p", "q", "words"),
    },
    "samescreen.checks.papers": {
        "tight_paper": ("p", "q"),
        "is_bound": ("p", "q", "paper"),
        "check_update": ("p", "q", "deeds", "paper"),
        "saving": ("p", "q"),
    },
}

CLASSES = {
    "samescreen.errors": ("ScreenError", "OutOfRange", "NotADeed", "OtherSize", "NoStep", "NoMove"),
    "samescreen.reading.reader": ("Reader",),
    "samescreen.reading.viewer": ("Viewer",),
    "samescreen.links.painter": ("Painter",),
    "samescreen.links.link": ("Link",),
}

METHODS = {
    ("samescreen.reading.reader", "Reader"): {
        "__init__": (),
        "feed": ("part",),
        "rest": (),
        "taken": (),
        "given": (),
        "copy": (),
    },
    ("samescreen.reading.viewer", "Viewer"): {
        "__init__": ("rows", "columns"),
        "feed": ("part",),
        "screen": (),
        "rest": (),
        "copy": (),
    },
    ("samescreen.links.painter", "Painter"): {
        "__init__": ("rows", "columns"),
        "paint": ("target",),
        "do": ("deed",),
        "screen": (),
        "written": (),
        "copy": (),
    },
    ("samescreen.links.link", "Link"): {
        "__init__": ("rows", "columns"),
        "paint": ("target",),
        "do": ("deed",),
        "carry": ("count",),
        "pending": (),
        "present": (),
        "shown": (),
    },
}


class Interface(unittest.TestCase):
    def test_functions_and_their_arguments(self):
        for name, functions in FUNCTIONS.items():
            module = importlib.import_module(name)
            for function, arguments in functions.items():
                found = getattr(module, function)
                self.assertEqual(found.__module__, name)
                self.assertEqual(tuple(inspect.signature(found).parameters), arguments)

    def test_classes(self):
        for name, classes in CLASSES.items():
            module = importlib.import_module(name)
            for told in classes:
                self.assertEqual(getattr(module, told).__module__, name)

    def test_methods_stand_in_their_class(self):
        for (name, told), methods in METHODS.items():
            found = vars(getattr(importlib.import_module(name), told))
            for method, arguments in methods.items():
                self.assertTrue(inspect.isfunction(found.get(method)), (told, method))
                self.assertEqual(tuple(inspect.signature(found[method]).parameters), ("self", *arguments))


class Files(unittest.TestCase):
    def sources(self):
        return sorted(PACKAGE.rglob("*.py"))

    def test_each_folder_is_a_package_of_source_files(self):
        for path in [PACKAGE, *PACKAGE.rglob("*")]:
            if path.name == "__pycache__" or path.parent.name == "__pycache__":
                continue
            if path.is_dir():
                self.assertTrue((path / "__init__.py").is_file(), path)
            else:
                self.assertEqual(path.suffix, ".py", path)

    def test_characters_and_lengths(self):
        for path in self.sources():
            lines = path.read_text(encoding="ascii").split("\n")
            self.assertLess(len(lines), 400, path)
            for line in lines:
                self.assertLessEqual(len(line), 120, path)
                self.assertTrue(line.isprintable(), path)

    def test_functions_are_short(self):
        for path in self.sources():
            for node in ast.walk(ast.parse(path.read_text())):
                if isinstance(node, ast.FunctionDef):
                    self.assertLessEqual(node.end_lineno - node.lineno + 1, 40, (path, node.name))

    def test_imports_are_from_the_package(self):
        for path in self.sources():
            for node in ast.walk(ast.parse(path.read_text())):
                self.assertNotIsInstance(node, ast.Import, path)
                if isinstance(node, ast.ImportFrom):
                    self.assertEqual(node.level, 0, path)
                    self.assertTrue(node.module.startswith("samescreen."), path)


if __name__ == "__main__":
    unittest.main()
