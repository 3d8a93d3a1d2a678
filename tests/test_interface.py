import inspect
import unittest

from digitways import errors, notes, rows, ways

FUNCTIONS = {
    ways: {
        "digit": ["way", "number"],
        "follower": ["way", "number"],
        "ring": ["way"],
        "alike": ["way", "other_way"],
        "mirrored": ["way"],
    },
    rows: {
        "is_row": ["way", "row"],
        "value": ["way", "row"],
        "row_of": ["way", "number"],
        "added": ["way", "one", "other"],
        "multiplied": ["way", "one", "other"],
        "carries": ["way", "one", "other"],
        "brought": ["way", "other_way", "row"],
    },
    notes: {
        "shown": ["way", "row"],
        "read": ["way", "text"],
    },
}

CLASSES = ["WayError", "NoWay", "NoRow", "NoDigits", "NoNote"]


class InterfaceTest(unittest.TestCase):

    def test_each_function_has_its_name_and_arguments(self):
        for module, functions in FUNCTIONS.items():
            for name, arguments in functions.items():
                with self.subTest(module=module.__name__, function=name):
                    function = getattr(module, name)
                    self.assertTrue(inspect.isfunction(function))
                    self.assertEqual(function.__module__, module.__name__)
                    self.assertEqual(list(inspect.signature(function).parameters), arguments)

    def test_each_argument_may_be_handed_in_by_its_name(self):
        way = (3, (-1, 0, 1))
        self.assertEqual(ways.digit(way=way, number=5), -1)
        self.assertEqual(ways.follower(way=way, number=5), 2)
        self.assertIs(ways.alike(way=way, other_way=way), True)
        self.assertIs(rows.is_row(way=way, row=[1]), True)
        self.assertEqual(rows.value(way=way, row=[1, 1]), 4)
        self.assertEqual(rows.row_of(way=way, number=4), [1, 1])
        self.assertEqual(rows.added(way=way, one=[1], other=[1]), [-1, 1])
        self.assertEqual(rows.multiplied(way=way, one=[1], other=[1]), [1])
        self.assertEqual(rows.carries(way=way, one=[1], other=[1]), [0, 1])
        self.assertEqual(rows.brought(way=way, other_way=(-2, (0, 1)), row=[-1]), [1, 1])
        self.assertEqual(notes.shown(way=way, row=[1]), "3: 1")
        self.assertEqual(notes.read(way=way, text="3: 1"), [1])

    def test_each_refusal_is_there(self):
        for name in CLASSES:
            with self.subTest(name=name):
                self.assertTrue(issubclass(getattr(errors, name), ValueError))


if __name__ == "__main__":
    unittest.main()
