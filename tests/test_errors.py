"""Points 5 (its last sentence) and 16, and the interface of sumwires.errors."""

import unittest

from sumwires import errors

WITH_TEXT = ["BadSizes", "TooMany", "BadMask", "BadTable", "BadRow"]
WITH_NAME = ["BadName", "Doubled", "NoWire"]


def made():
    told = {word: getattr(errors, word)("some words") for word in WITH_TEXT}
    told.update({word: getattr(errors, word)("a1") for word in WITH_NAME})
    told["BadLine"] = errors.BadLine(3)
    told["Ring"] = errors.Ring(["a", "b"])
    return told


class ClassesTest(unittest.TestCase):
    def test_there_are_ten(self):
        self.assertEqual(len(made()), 10)

    def test_base_of_all(self):
        self.assertEqual(errors.WireError.__bases__, (ValueError,))

    def test_each_stands_straight_under_the_base(self):
        for word, error in made().items():
            with self.subTest(word):
                self.assertEqual(type(error).__name__, word)
                self.assertEqual(type(error).__bases__, (errors.WireError,))
                self.assertIsInstance(error, errors.WireError)
                self.assertIsInstance(error, ValueError)

    def test_none_is_of_another_one(self):
        for word, error in made().items():
            for other in made():
                with self.subTest(word=word, other=other):
                    self.assertEqual(isinstance(error, getattr(errors, other)), word == other)

    def test_each_is_taken_by_its_own_name_and_the_base(self):
        for word, error in made().items():
            for taken in (getattr(errors, word), errors.WireError, ValueError):
                with self.subTest(word=word, taken=taken), self.assertRaises(taken):
                    raise error

    def test_made_with_any_text(self):
        for word in WITH_TEXT + ["WireError"]:
            for text in ("", "a", "two\nrows", "x" * 20000):
                with self.subTest(word):
                    self.assertIsInstance(getattr(errors, word)(text), getattr(errors, word))


class FieldsTest(unittest.TestCase):
    def test_name(self):
        things = ["a", "", "A b", None, True, 0, -7, 2.5, b"a", (), ("a", 1), [], ["a", ["b"]], {"a": [1]}, {1, 2}]
        for word in WITH_NAME:
            for thing in things:
                with self.subTest(word=word, thing=thing):
                    error = getattr(errors, word)(thing)
                    self.assertEqual(error.name, thing)
                    self.assertIs(type(error.name), type(thing))

    def test_name_by_keyword(self):
        for word in WITH_NAME:
            self.assertEqual(getattr(errors, word)(name="ab").name, "ab")

    def test_name_is_kept_as_a_copy(self):
        for word in WITH_NAME:
            with self.subTest(word):
                inner = ["b"]
                thing = ["a", inner, (inner,), {"k": inner}]
                error = getattr(errors, word)(thing)
                self.assertEqual(thing, ["a", ["b"], (["b"],), {"k": ["b"]}])
                inner.append("c")
                thing.append("d")
                thing[3]["l"] = 1
                self.assertEqual(error.name, ["a", ["b"], (["b"],), {"k": ["b"]}])

    def test_a_change_of_the_field_leaves_what_was_handed_in(self):
        thing = ["a", ["b"]]
        error = errors.NoWire(thing)
        error.name[1].append("c")
        error.name.append("d")
        self.assertEqual(thing, ["a", ["b"]])

    def test_name_that_cannot_be_shown(self):
        within_itself = []
        within_itself.append(within_itself)
        for word in WITH_NAME:
            with self.subTest(word):
                self.assertIsInstance(str(getattr(errors, word)(10 ** 5000)), str)
                self.assertIsInstance(getattr(errors, word)(within_itself).name, list)

    def test_line(self):
        for line in (0, 1, 19999):
            self.assertEqual(errors.BadLine(line).line, line)
        self.assertEqual(errors.BadLine(line=4).line, 4)

    def test_ring(self):
        for ring in (["a"], ["a", "b", "c"]):
            error = errors.Ring(ring)
            self.assertIs(type(error.ring), list)
            self.assertEqual(error.ring, ring)
        self.assertEqual(errors.Ring(ring=["z"]).ring, ["z"])

    def test_ring_is_kept_as_a_copy(self):
        ring = ["a", "b"]
        error = errors.Ring(ring)
        other = errors.Ring(ring)
        ring.append("c")
        ring[0] = "z"
        self.assertEqual(error.ring, ["a", "b"])
        error.ring.append("d")
        self.assertEqual(ring, ["z", "b", "c"])
        self.assertEqual(other.ring, ["a", "b"])


if __name__ == "__main__":
    unittest.main()
