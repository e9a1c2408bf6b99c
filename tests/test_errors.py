"""Point [4]: the errors."""

import unittest

from talkmeans import errors
from talkmeans.talks import Talk

WITH_AT = ("InvalidTalk", "InvalidText", "InvalidRow", "InvalidNumbers", "Refused")
WITH_NOTHING = ("InvalidLot", "InvalidCommand")


def things():
    return [0, -1, True, None, "talks", ["a"], {"a": []}, object(), Talk([[1]]), ValueError("x"), (1, 2)]


class Classes(unittest.TestCase):
    def test_base_class(self):
        self.assertEqual(errors.TalkError.__bases__, (ValueError,))

    def test_direct_subclasses(self):
        for name in WITH_AT + WITH_NOTHING + ("InvalidBook",):
            self.assertEqual(getattr(errors, name).__bases__, (errors.TalkError,), name)

    def test_no_talk_is_a_key_error_only(self):
        self.assertEqual(errors.NoTalk.__bases__, (KeyError,))
        self.assertFalse(issubclass(errors.NoTalk, errors.TalkError))
        self.assertFalse(issubclass(errors.NoTalk, ValueError))

    def test_there_are_just_these(self):
        told = {name for name, thing in vars(errors).items() if isinstance(thing, type)}
        self.assertEqual(told, {"TalkError", "NoTalk", "InvalidBook", *WITH_AT, *WITH_NOTHING})


class Kept(unittest.TestCase):
    def check(self, name, attribute):
        for thing in things():
            made = getattr(errors, name)
            self.assertIs(getattr(made(thing), attribute), thing, name)
            self.assertIs(getattr(made(**{attribute: thing}), attribute), thing, name)

    def test_at(self):
        for name in WITH_AT:
            self.check(name, "at")

    def test_word(self):
        self.check("InvalidBook", "word")

    def test_name(self):
        self.check("NoTalk", "name")

    def test_no_copies(self):
        kept = ["a"]
        error = errors.NoTalk(kept)
        kept.append("b")
        self.assertEqual(error.name, ["a", "b"])

    def test_nothing_to_keep(self):
        for name in WITH_NOTHING:
            self.assertEqual(vars(getattr(errors, name)()), {})

    def test_arguments_are_needed(self):
        for name in WITH_AT + ("InvalidBook", "NoTalk"):
            with self.assertRaises(TypeError):
                getattr(errors, name)()

    def test_caught_by_the_base(self):
        for error in [errors.InvalidTalk(1), errors.InvalidLot(), errors.Refused(2), errors.InvalidBook("steps")]:
            with self.assertRaises(errors.TalkError):
                raise error
            with self.assertRaises(ValueError):
                raise error
        with self.assertRaises(KeyError):
            raise errors.NoTalk("a")


if __name__ == "__main__":
    unittest.main()
