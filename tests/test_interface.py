"""The names of the interface: where they are defined, with which parameters, and in which class."""

import ast
import pathlib
import unittest

PACKAGE = pathlib.Path(__file__).resolve().parent.parent / "spotheights"

FUNCTIONS = {
    "ratios": {"compare": ["first", "second"]},
    "monomials": {
        "monomials_of_degree": ["dimension", "degree"], "monomials_up_to": ["dimension", "degree"],
        "comes_before": ["first", "second"], "divides": ["first", "second"], "monomial_factorial": ["exponents"],
    },
    "polytext": {"read_polynomial": ["text", "dimension"]},
    "calculus": {
        "derivative": ["polynomial", "variable"], "apply_operator": ["operator", "polynomial"],
        "pairing": ["first", "second"],
    },
    "substitution": {
        "changed": ["polynomial", "matrix"], "shifted": ["polynomial", "by"],
        "embedded": ["polynomial", "dimension", "offset"],
    },
    "matrices": {
        "solve": ["rows", "right", "*", "width"], "kernel": ["rows", "*", "width"], "rank": ["rows"],
        "determinant": ["rows"], "invert": ["rows"],
    },
    "questiontext": {"read_question": ["text", "dimension"]},
}

CLASSES = {
    "ratios": {"Ratio": {
        "__init__": ["self", "top", "bottom"], "over": ["self", "b"], "sign": ["self"], "read": ["text"],
        "__add__": 2, "__radd__": 2, "__sub__": 2, "__rsub__": 2, "__mul__": 2, "__rmul__": 2, "__neg__": 1,
        "__abs__": 1, "__eq__": 2, "__bool__": 1, "__str__": 1,
    }},
    "polynomials": {"Polynomial": {
        "__init__": ["self", "dimension", "terms"], "degree": ["self"], "low_degree": ["self"], "terms": ["self"],
        "coefficient": ["self", "exponents"], "head": ["self"], "part": ["self", "degree"], "top_part": ["self"],
        "lowest_part": ["self"], "is_homogeneous": ["self"], "__call__": ["self", "spot"],
        "zero": ["cls", "dimension"], "constant": ["cls", "dimension", "number"],
        "coordinate": ["cls", "dimension", "index"], "monomial": ["cls", "exponents"], "__add__": 2, "__sub__": 2,
        "__mul__": 2, "__rmul__": 2, "__neg__": 1, "__eq__": 2, "__bool__": 1, "__str__": 1,
    }},
    "questions": {"Question": {
        "__init__": ["self", "spot", "operator"], "ask": ["self", "polynomial"], "series": ["self", "degree"],
        "height": ["cls", "spot"], "slope": ["cls", "spot", "index"], "__eq__": 2, "__str__": 1,
    }},
}

DECORATORS = {"read": "staticmethod", "zero": "classmethod", "constant": "classmethod", "coordinate": "classmethod",
              "monomial": "classmethod", "height": "classmethod", "slope": "classmethod", "degree": "property",
              "low_degree": "property"}


def parameters(function):
    told = function.args
    names = [one.arg for one in told.posonlyargs + told.args]
    if told.kwonlyargs:
        names.append("*")
    return names + [one.arg for one in told.kwonlyargs]


def defined(name, kind):
    """The functions or the classes at the top of a file of the package."""
    tree = ast.parse((PACKAGE / (name + ".py")).read_text())
    return {node.name: node for node in tree.body if isinstance(node, kind)}


class Interface(unittest.TestCase):

    def test_functions(self):
        for name, wanted in FUNCTIONS.items():
            found = defined(name, ast.FunctionDef)
            for function, told in wanted.items():
                with self.subTest(name + "." + function):
                    self.assertEqual(parameters(found[function]), told)

    def test_classes(self):
        for name, wanted in CLASSES.items():
            found = defined(name, ast.ClassDef)
            for kind, methods in wanted.items():
                inside = {node.name: node for node in found[kind].body if isinstance(node, ast.FunctionDef)}
                self.assertEqual(found[kind].bases, [])
                for method, told in methods.items():
                    with self.subTest(kind + "." + method):
                        names = parameters(inside[method])
                        if isinstance(told, int):
                            self.assertEqual(len(names), told)
                        else:
                            self.assertEqual(names, told)
                        decorators = [node.id for node in inside[method].decorator_list]
                        self.assertEqual(decorators, [DECORATORS[method]] if method in DECORATORS else [])

    def test_the_package_file_has_a_docstring_alone(self):
        body = ast.parse((PACKAGE / "__init__.py").read_text()).body
        self.assertEqual(len(body), 1)
        self.assertIsInstance(body[0].value.value, str)


if __name__ == "__main__":
    unittest.main()
