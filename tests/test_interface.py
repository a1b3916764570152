"""The interface: each name, argument, attribute and method as it is listed, in its own file and class."""

import inspect
import unittest

from blockshares import folders, questions, stores
from blockshares.folders import Folders
from blockshares.questions import Question
from blockshares.stores import Store

# For each class: its file, and the arguments of what stands in its body.
CLASSES = (
    (Folders, folders, {
        "__init__": "(self, names, *, chain=False)", "lots": "(self)", "__len__": "(self)", "__contains__": None,
        "__eq__": None}),
    (Question, questions, {
        "__init__": "(self, folders, weights=None)", "weight": "(self, lot)", "counts": "(self)", "__eq__": None}),
    (Store, stores, {
        "__init__": "(self, folders, sizes=None)", "sizes": "(self)", "total": "(self)", "strike": "(self, names)",
        "copy": "(self, name, new)", "write": "(self, name, size)", "share": "(self, lot, size)",
        "leave": "(self, name, lot, size)", "rename": "(self, name, new)", "__call__": "(self, question)",
        "__getitem__": None, "__contains__": None, "__len__": "(self)", "__eq__": None, "__le__": None,
        "__add__": None, "__mul__": None, "__rmul__": None, "__or__": None, "__and__": None}),
)


class Interface(unittest.TestCase):

    def test_methods_stand_in_the_body_of_their_class(self):
        for made, home, methods in CLASSES:
            self.assertEqual(made.__module__, home.__name__)
            for name, arguments in methods.items():
                with self.subTest(made=made, name=name):
                    self.assertIn(name, made.__dict__)
                    if arguments is not None:
                        self.assertEqual(str(inspect.signature(made.__dict__[name])), arguments)

    def test_the_class_method(self):
        self.assertIsInstance(Store.__dict__["of_sizes"], classmethod)
        self.assertEqual(str(inspect.signature(Store.of_sizes)), "(folders, sizes)")

    def test_attributes(self):
        house = Folders(("a", "b"), chain=True)
        self.assertEqual((house.names, house.chain), (("a", "b"), True))
        self.assertEqual((Store(house).folders, Question(house).folders), (house, house))

    def test_the_example(self):
        house = Folders(["a", "b"])
        store = Store(house, {("a",): 15, ("a", "b"): 15, ("b",): 5})
        both = Question(house, {("a", "b"): 1})
        self.assertEqual(
            [store(both), store.strike(["a"]).total(), len(store.copy("b", "c"))], [(15, 1), (20, 1), 3])


if __name__ == "__main__":
    unittest.main()
