"""The interface stands where the document lists it, and the files keep to their sizes."""

import ast
import importlib
import pathlib
import unittest

FOLDER = pathlib.Path(__file__).resolve().parent.parent / "onethrow"

FUNCTIONS = {
    "errors": [],
    "ratios": ["total", "greatest"],
    "orders": [],
    "chances": [],
    "pairs": ["lower", "barring", "pair_table", "is_pair_table"],
    "machines": [],
    "maps": ["is_rising_map", "broken_pair", "rising_maps", "count_maps", "extended", "composed", "is_below_map",
             "image", "settled"],
    "packing": ["packed", "is_packing", "is_pricing", "sum_of", "cost"],
    "throws": ["is_part", "is_throw", "is_joint", "greatest_part", "throw", "joint", "rising_share", "harm", "prices",
               "is_price_list", "price_cost"],
    "pictures": ["is_ring", "is_forest", "is_crown", "is_retraction", "lows", "ring", "crown", "diamond",
                 "retraction"],
    "forests": ["spanning", "growth", "dealt", "joint_along", "forest_throw"],
    "verdicts": ["always", "bad_machine"],
    "backward": ["machine_of", "thrown", "landed", "together", "ended", "meets", "closed_sets", "resting", "bounds"],
    "shapes": ["renamed", "same_shape", "symmetries", "plain_shape", "shapes", "forest_shapes", "count_orders"],
    "lab": [],
    "hidden": [],
}

CLASSES = {
    "ratios": {
        "Ratio": ["whole", "read", "quotient", "under", "__add__", "__sub__", "__mul__", "__neg__", "__eq__",
                  "__bool__", "__str__"],
    },
    "orders": {
        "Order": ["below", "pairs", "covers", "ups", "turned", "part", "chain", "crown", "read", "__contains__",
                  "__len__", "__iter__", "__eq__", "__str__"],
    },
    "chances": {
        "Chance": ["sure", "shared", "read", "share", "mass", "weights", "average", "sent", "mixed", "__len__",
                   "__contains__", "__iter__", "__eq__", "__str__"],
    },
    "machines": {
        "Machine": ["still", "along", "read", "row", "rows", "fault", "is_rising", "check", "led", "then", "power",
                    "mixed", "part", "turned", "__eq__", "__str__"],
    },
    "lab": {
        "Lab": ["tell", "forget", "undo", "__len__", "told", "untold", "machine", "fault", "share", "throw", "fits",
                "bounds"],
    },
    "hidden": {
        "Hidden": ["tell", "told", "undo", "possible", "many", "says", "needless", "best", "knows", "supposed",
                   "__len__"],
    },
}


class InterfaceTest(unittest.TestCase):
    def test_functions_are_defined_in_their_files(self):
        for word, functions in FUNCTIONS.items():
            module = importlib.import_module(f"onethrow.{word}")
            for function in functions:
                self.assertEqual(getattr(module, function).__module__, f"onethrow.{word}")

    def test_methods_are_defined_in_their_classes(self):
        for word, classes in CLASSES.items():
            module = importlib.import_module(f"onethrow.{word}")
            for kind, methods in classes.items():
                self.assertEqual(getattr(module, kind).__module__, f"onethrow.{word}")
                for method in methods:
                    self.assertIn(method, vars(getattr(module, kind)), f"{kind}.{method}")


class FileTest(unittest.TestCase):
    def files(self):
        return sorted(FOLDER.rglob("*.py"))

    def test_sizes_and_characters(self):
        for file in self.files():
            text = file.read_text(encoding="utf-8")
            lines = text.splitlines()
            self.assertLessEqual(len(lines), 399, file)
            self.assertTrue(all(sign == "\n" or " " <= sign <= "~" for sign in text), file)
            self.assertLessEqual(max([len(line) for line in lines]), 120, file)

    def test_sizes_of_functions(self):
        for file in self.files():
            for node in ast.walk(ast.parse(file.read_text(encoding="utf-8"))):
                if isinstance(node, ast.FunctionDef):
                    self.assertLessEqual(node.end_lineno - node.lineno + 1, 40, f"{file}: {node.name}")

    def test_imports_are_of_the_package_or_the_few_words_allowed(self):
        allowed = {"math": {"gcd", "lcm", "isqrt", "comb", "perm", "factorial"}, "heapq": {"heappush", "heappop"}}
        for file in self.files():
            for node in ast.walk(ast.parse(file.read_text(encoding="utf-8"))):
                self.assertNotIsInstance(node, ast.Import, file)
                if isinstance(node, ast.ImportFrom) and not node.module.startswith("onethrow."):
                    self.assertLessEqual({alias.name for alias in node.names}, allowed.get(node.module, set()), file)


if __name__ == "__main__":
    unittest.main()
