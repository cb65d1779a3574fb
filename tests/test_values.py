import unittest

from versionjudge.values import is_ascending, is_integer, is_word


class ValuesTest(unittest.TestCase):
    def test_integers(self):
        for thing in (0, 1, -1, 10 ** 39):
            self.assertIs(is_integer(thing), True)
        for thing in (True, False, None, "1", (1,), [1], {}):
            self.assertIs(is_integer(thing), False)

    def test_words(self):
        for thing in ("a", "z", "zzzzzzzzzz", "abcdefghij"):
            self.assertIs(is_word(thing), True, thing)
        for thing in ("", "abcdefghijk", "A", "aB", "a1", "a b", " a", "a\n", "`", "{", "-", None, 1, True, ("a",),
                      ["a"], {"a": 1}):
            self.assertIs(is_word(thing), False, thing)

    def test_ascending(self):
        for things in ((), (1,), (1, 2, 10), ("B", "a", "ab"), ((1, 2), (1, 2, 0), (2,))):
            self.assertIs(is_ascending(things), True, things)
        for things in ((1, 1), (2, 1), (1, 2, 2), (1, 3, 2), ("a", "B"), ((2,), (1, 2))):
            self.assertIs(is_ascending(things), False, things)


if __name__ == "__main__":
    unittest.main()
