"""The interface stands where the document lists it, and the files keep to their sizes."""

import ast
import importlib
import inspect
import pathlib
import unittest

FOLDER = pathlib.Path(__file__).resolve().parent.parent / "onethrow"

# Names with their arguments, as the document writes them.
FUNCTIONS = {
    "ratios": ["total(ratios)", "greatest(ratios)"],
    "pairs": ["lower(order, low, high)", "barring(order, low, high)", "pair_table(order, low, high)",
              "is_pair_table(order, low, high, rows)"],
    "maps": ["is_rising_map(beginnings, standings, names)", "broken_pair(beginnings, standings, names)",
             "rising_maps(beginnings, standings)", "count_maps(beginnings, standings)",
             "extended(beginnings, standings, told)", "composed(middle, first, second)",
             "is_below_map(standings, first, second)", "image(names)", "settled(order, names)"],
    "packing": ["packed(things, limits)", "is_packing(things, limits, weights)",
                "is_pricing(things, count, prices)", "sum_of(weights)", "cost(limits, prices)"],
    "throws": ["is_part(machine, rows)", "is_throw(machine, rows)", "is_joint(machine, rows)",
               "greatest_part(machine)", "throw(machine)", "joint(machine)", "rising_share(machine)",
               "harm(machine, rows)", "prices(machine)", "is_price_list(machine, prices)",
               "price_cost(machine, prices)"],
    "pictures": ["is_ring(order, names)", "is_forest(order)", "is_crown(order, names)",
                 "is_retraction(order, taken, names)", "lows(order, ring)", "ring(order)", "crown(order)",
                 "diamond(order)", "retraction(order)"],
    "forests": ["spanning(order)", "growth(order)", "dealt(first, second)", "joint_along(machine)",
                "forest_throw(machine)"],
    "verdicts": ["always(order)", "bad_machine(order)"],
    "backward": ["machine_of(beginnings, standings, rows)", "thrown(order, rows, steps)",
                 "landed(order, rows, steps)", "together(order, rows, steps)", "ended(order, rows, throws)",
                 "meets(order, rows)", "closed_sets(machine)", "resting(machine)", "bounds(order, rows, steps)"],
    "shapes": ["renamed(order, names)", "same_shape(first, second)", "symmetries(order)", "plain_shape(order)",
               "shapes(size)", "forest_shapes(size)", "count_orders(size)"],
}

CLASSES = {
    "ratios": {
        "Ratio(top, bottom)": [
            "whole(n)", "read(text)", "quotient(other)", "under(other)", "__add__",
            "__sub__", "__mul__", "__neg__", "__eq__", "__bool__", "__str__",
        ],
    },
    "orders": {
        "Order(names, pairs)": [
            "below(low, high)", "pairs()", "covers()", "ups()", "turned()",
            "part(names)", "chain(*names)", "crown(size)", "read(text)", "__contains__", "__len__", "__iter__",
            "__eq__", "__str__",
        ],
    },
    "chances": {
        "Chance(weights)": [
            "sure(name)", "shared(rows)", "read(text)", "share(name)", "mass(names)",
            "weights()", "average(values)", "sent(names)", "mixed(other, share)", "__len__", "__contains__",
            "__iter__", "__eq__", "__str__",
        ],
    },
    "machines": {
        "Machine(beginnings, standings, rows)": [
            "still(order)", "along(beginnings, standings, names)",
            "read(beginnings, standings, text)", "row(name)", "rows()", "fault()", "is_rising()", "check()",
            "led(chance)", "then(other)", "power(n)", "mixed(other, share)", "part(names)", "turned()", "__eq__",
            "__str__",
        ],
    },
    "lab": {
        "Lab(beginnings, standings)": [
            "tell(name, chance)", "forget(name)", "undo()", "__len__",
            "told()", "untold()", "machine()", "fault()", "share()", "throw()", "fits(name, chance)",
            "bounds(name, wish)",
        ],
    },
    "hidden": {
        "Hidden(names)": [
            "tell(fact, holds)", "told()", "undo()", "possible()", "many()",
            "says(fact)", "needless()", "best(*facts)", "knows(fact)", "supposed(rows, fact)", "__len__",
        ],
    },
}


def written(name, value):
    """Return the name of a function or class with its arguments, without that of its own object."""
    arguments = [parameter for parameter in inspect.signature(value).parameters.values() if parameter.name != "self"]
    return f"{name}({', '.join([str(parameter) for parameter in arguments])})"


class InterfaceTest(unittest.TestCase):
    def test_functions_are_defined_in_their_files(self):
        for word, functions in FUNCTIONS.items():
            module = importlib.import_module(f"onethrow.{word}")
            for function in functions:
                name = function.partition("(")[0]
                self.assertEqual(getattr(module, name).__module__, f"onethrow.{word}")
                self.assertEqual(written(name, getattr(module, name)), function)

    def test_methods_are_defined_in_their_classes(self):
        for word, classes in CLASSES.items():
            module = importlib.import_module(f"onethrow.{word}")
            for kind, methods in classes.items():
                found = getattr(module, kind.partition("(")[0])
                self.assertEqual([found.__module__, written(found.__name__, found)], [f"onethrow.{word}", kind])
                for method in methods:
                    name = method.partition("(")[0]
                    self.assertIn(name, vars(found), f"{kind}.{method}")
                    if not name.startswith("__"):
                        self.assertEqual(written(name, getattr(found, name)), method)


class FileTest(unittest.TestCase):
    def files(self):
        return sorted(FOLDER.rglob("*.py"))

    def test_sizes_and_characters(self):
        for file in self.files():
            text = file.read_text(encoding="utf-8")
            lines = text.splitlines()
            self.assertLessEqual(len(lines), 399, file)
            self.assertTrue(all(sign == "\n" or " " <= sign <= "~" for sign in text), file)
            self.assertLessEqual(max([len(line) for line in lines]), 120, file)

    def test_sizes_of_functions(self):
        for file in self.files():
            for node in ast.walk(ast.parse(file.read_text(encoding="utf-8"))):
                if isinstance(node, ast.FunctionDef):
                    self.assertLessEqual(node.end_lineno - node.lineno + 1, 40, f"{file}: {node.name}")

    def test_imports_are_of_the_package_or_the_few_words_allowed(self):
        allowed = {"math": {"gcd", "lcm", "isqrt", "comb", "perm", "factorial"}, "heapq": {"heappush", "heappop"}}
        for file in self.files():
            for node in ast.walk(ast.parse(file.read_text(encoding="utf-8"))):
                self.assertNotIsInstance(node, ast.Import, file)
                if isinstance(node, ast.ImportFrom) and not node.module.startswith("onethrow."):
                    self.assertLessEqual({alias.name for alias in node.names}, allowed.get(node.module, set()), file)

    def test_no_files_import_each_other(self):
        left = {}
        for file in self.files():
            nodes = ast.walk(ast.parse(file.read_text(encoding="utf-8")))
            imports = {node.module for node in nodes if isinstance(node, ast.ImportFrom)}
            left[f"onethrow.{file.stem}"] = {word for word in imports if word.startswith("onethrow.")}
        while left:
            # Something always imports nothing of what is left, unless there is a circle.
            ready = [word for word, imports in left.items() if not imports & set(left)]
            self.assertTrue(ready, sorted(left))
            left = {word: imports for word, imports in left.items() if word not in ready}


if __name__ == "__main__":
    unittest.main()
