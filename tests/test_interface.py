"""The names of the interface: where they are defined, with which parameters, and in which class."""

import ast
import pathlib
import unittest

PACKAGE = pathlib.Path(__file__).resolve().parent.parent / "spotheights"

FUNCTIONS = {
    "ratios": {"compare": ["first", "second"]},
    "monomials": {
        "monomials_of_degree": ["dimension", "degree"], "monomials_up_to": ["dimension", "degree"],
        "comes_before": ["first", "second"], "divides": ["first", "second"], "monomial_factorial": ["exponents"],
    },
    "polytext": {"read_polynomial": ["text", "dimension"]},
    "calculus": {
        "derivative": ["polynomial", "variable"], "apply_operator": ["operator", "polynomial"],
        "pairing": ["first", "second"],
    },
    "substitution": {
        "changed": ["polynomial", "matrix"], "shifted": ["polynomial", "by"],
        "embedded": ["polynomial", "dimension", "offset"],
    },
    "matrices": {
        "solve": ["rows", "right", "*", "width"], "kernel": ["rows", "*", "width"], "rank": ["rows"],
        "determinant": ["rows"], "invert": ["rows"],
    },
    "questiontext": {"read_question": ["text", "dimension"]},
    "spacetools": {
        "is_graded": ["space"], "is_closed": ["space"], "derived_space": ["space"],
        "changed_space": ["space", "matrix"], "generators": ["space"],
    },
    "leastspace": {"least_space": ["lot"], "least_rows": ["lot"], "ranks": ["lot"]},
    "fitting": {
        "fit": ["lot", "answers"], "project": ["lot", "polynomial"], "fit_certificate": ["lot", "answers"],
    },
    "weights": {
        "weights_for": ["lot", "question"], "exact_degree": ["lot", "question"], "error_part": ["lot", "question"],
        "exactness": ["lot", "question"],
    },
    "membership": {"belonging": ["lot", "polynomial"]},
    "orders": {"read_order": ["text"]},
    "annihilation": {"annihilated_space": ["dimension", "operators", "*", "degree"]},
    "rivals": {
        "judge_fit": ["lot", "space"], "fit_in": ["lot", "space", "answers"], "judge_degrees": ["lot", "space"],
    },
    "lowersets": {
        "is_lower": ["monomials"], "lower_sets": ["dimension", "size"], "fitting_sets": ["lot"],
        "monomial_space": ["dimension", "monomials"],
    },
    "closure": {"judge_closure": ["lot"], "filled": ["lot"]},
    "staircases": {"grid_lot": ["levels", "monomials"], "judge_staircase": ["lot"]},
    "algebra": {
        "variable_table": ["lot", "variable"], "multiply_answers": ["lot", "first", "second"], "unit_answers": ["lot"],
    },
    "motions": {
        "follows_shifts": ["lot"], "stray_member": ["lot"], "follows_change": ["lot", "matrix"],
        "stray_change": ["lot", "matrix"], "is_similarity": ["matrix"], "stray_lot": ["matrix"],
    },
    "newton": {"newton_basis": ["lot"], "newton_coefficients": ["lot", "answers"], "added_degrees": ["lot"]},
}

CLASSES = {
    "ratios": {"Ratio": {
        "__init__": ["self", "top", "bottom"], "over": ["self", "b"], "sign": ["self"], "read": ["text"],
        "__add__": 2, "__radd__": 2, "__sub__": 2, "__rsub__": 2, "__mul__": 2, "__rmul__": 2, "__neg__": 1,
        "__abs__": 1, "__eq__": 2, "__bool__": 1, "__str__": 1,
    }},
    "polynomials": {"Polynomial": {
        "__init__": ["self", "dimension", "terms"], "degree": ["self"], "low_degree": ["self"], "terms": ["self"],
        "coefficient": ["self", "exponents"], "head": ["self"], "part": ["self", "degree"], "top_part": ["self"],
        "lowest_part": ["self"], "is_homogeneous": ["self"], "__call__": ["self", "spot"],
        "zero": ["cls", "dimension"], "constant": ["cls", "dimension", "number"],
        "coordinate": ["cls", "dimension", "index"], "monomial": ["cls", "exponents"], "__add__": 2, "__sub__": 2,
        "__mul__": 2, "__rmul__": 2, "__neg__": 1, "__eq__": 2, "__bool__": 1, "__str__": 1,
    }},
    "questions": {"Question": {
        "__init__": ["self", "spot", "operator"], "ask": ["self", "polynomial"], "series": ["self", "degree"],
        "height": ["cls", "spot"], "slope": ["cls", "spot", "index"], "__eq__": 2, "__str__": 1,
    }},
    "lots": {"Lot": {
        "__init__": ["self", "dimension", "questions"], "__len__": 1, "__iter__": 1, "__eq__": 2,
        "question_at": ["self", "index"], "ask": ["self", "polynomial"], "table": ["self", "monomials"], "__add__": 2,
        "__mul__": 2, "with_question": ["self", "question"], "part": ["self", "indexes"], "shifted": ["self", "by"],
        "changed": ["self", "matrix"], "empty": ["cls", "dimension"], "heights": ["cls", "dimension", "spots"],
    }},
    "spaces": {"Space": {
        "__init__": ["self", "dimension", "polynomials"], "degree": ["self"], "__len__": 1, "__iter__": 1,
        "__contains__": 2, "__eq__": 2, "counts": ["self"], "up_to": ["self", "degree"],
        "coordinates": ["self", "polynomial"], "__add__": 2, "__mul__": 2, "projection": ["self", "polynomial"],
    }},
    "fitting": {"Fitter": {
        "__init__": ["self", "lot"], "__call__": ["self", "answers"], "cardinal": ["self", "index"],
        "cardinals": ["self"],
    }},
    "orders": {"Order": {
        "__init__": ["self", "kind", "ranking"], "precedes": ["self", "first", "second"],
        "arranged": ["self", "monomials"], "__eq__": 2, "__str__": 1,
    }},
    "ideals": {"Ideal": {
        "__init__": ["self", "lot", "order"], "normal_monomials": ["self"], "basis": ["self"], "heads": ["self"],
        "__contains__": 2, "rest": ["self", "polynomial"], "multipliers": ["self", "polynomial"], "tops": ["self"],
    }},
    "survey": {"Survey": {
        "__init__": ["self", "dimension"], "put": ["self", "name", "question", "answer"], "take": ["self", "name"],
        "tell": ["self", "name", "answer"], "shift": ["self", "by"], "together": ["self", "deeds"], "undo": ["self"],
        "redo": ["self"], "__len__": 1, "__iter__": 1, "__contains__": 2, "__getitem__": 2, "__setitem__": 3,
        "question_of": ["self", "name"], "as_lot": ["self"], "told": ["self"], "least": ["self"], "growth": ["self"],
        "fit": ["self"], "estimate": ["self", "question"],
    }},
    "desk": {"Desk": {"__init__": ["self", "dimension"], "run": ["self", "lines"]}},
    "certificates": {
        "Certificate": {"__init__": ["self", "lot"], "holds": ["self"], "polynomials": ["self"],
                        "weight_lists": ["self"], "line": ["self"]},
        "Member": {"__init__": ["self", "lot", "polynomial", "rows"], "holds": ["self"]},
        "NonMember": {"__init__": ["self", "lot", "polynomial", "obstruction"], "holds": ["self"]},
        "LeastDegree": {"__init__": ["self", "lot", "answers", "polynomial", "weights"], "holds": ["self"]},
        "ExactAlways": {"__init__": ["self", "lot", "question", "weights"], "holds": ["self"]},
        "ExactUpTo": {"__init__": ["self", "lot", "question", "weights", "exact_degree", "miss"], "holds": ["self"]},
    },
    "verdicts": {
        "Fits": {"__init__": ["self", "lot", "space", "cardinals"], "holds": ["self"]},
        "Gap": {"__init__": ["self", "lot", "space", "member", "weights"], "holds": ["self"]},
        "Keeps": {"__init__": ["self", "lot", "space", "fitted"], "holds": ["self"]},
        "Raises": {"__init__": ["self", "lot", "space", "exponents", "fitted"], "holds": ["self"]},
        "Closed": {"__init__": ["self", "lot", "tables"], "holds": ["self"]},
        "Spoiled": {"__init__": ["self", "lot", "polynomial", "variable", "index"], "holds": ["self"]},
        "Stairs": {"__init__": ["self", "lot", "levels"], "holds": ["self"]},
        "Crossed": {"__init__": ["self", "lot", "variable", "first", "second"], "holds": ["self"]},
    },
}

DECORATORS = {"read": "staticmethod", "zero": "classmethod", "constant": "classmethod", "coordinate": "classmethod",
              "monomial": "classmethod", "height": "classmethod", "slope": "classmethod", "degree": "property",
              "low_degree": "property", "empty": "classmethod", "heights": "classmethod"}


def parameters(function):
    told = function.args
    names = [one.arg for one in told.posonlyargs + told.args]
    if told.kwonlyargs:
        names.append("*")
    return names + [one.arg for one in told.kwonlyargs]


def defined(name, kind):
    """The functions or the classes at the top of a file of the package."""
    tree = ast.parse((PACKAGE / (name + ".py")).read_text())
    return {node.name: node for node in tree.body if isinstance(node, kind)}


class Interface(unittest.TestCase):

    def test_functions(self):
        for name, wanted in FUNCTIONS.items():
            found = defined(name, ast.FunctionDef)
            for function, told in wanted.items():
                with self.subTest(name + "." + function):
                    self.assertEqual(parameters(found[function]), told)

    def test_classes(self):
        for name, wanted in CLASSES.items():
            found = defined(name, ast.ClassDef)
            for kind, methods in wanted.items():
                inside = {node.name: node for node in found[kind].body if isinstance(node, ast.FunctionDef)}
                base = ["Certificate"] if name in ["certificates", "verdicts"] and kind != "Certificate" else []
                self.assertEqual([ast.unparse(node) for node in found[kind].bases], base)
                for method, told in methods.items():
                    with self.subTest(kind + "." + method):
                        names = parameters(inside[method])
                        if isinstance(told, int):
                            self.assertEqual(len(names), told)
                        else:
                            self.assertEqual(names, told)
                        decorators = [node.id for node in inside[method].decorator_list]
                        self.assertEqual(decorators, [DECORATORS[method]] if method in DECORATORS else [])

    def test_defaults(self):
        for name, kind, method, wanted in [
            ("ratios", "Ratio", "__init__", ["1"]), ("polynomials", "Polynomial", "__init__", ["()"]),
            ("lots", "Lot", "__init__", ["()"]), ("spaces", "Space", "__init__", ["()"]), ("survey", "Survey", "put", ["None"]),
        ]:
            inside = {node.name: node for node in defined(name, ast.ClassDef)[kind].body if isinstance(node, ast.FunctionDef)}
            self.assertEqual([ast.unparse(value) for value in inside[method].args.defaults], wanted)

    def test_the_package_file_has_a_docstring_alone(self):
        body = ast.parse((PACKAGE / "__init__.py").read_text()).body
        self.assertEqual(len(body), 1)
        self.assertIsInstance(body[0].value.value, str)


if __name__ == "__main__":
    unittest.main()
