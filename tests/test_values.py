import unittest

from versionjudge.values import (
    are_ascending_words, is_ascending, is_integer, is_position, is_state_tuple, is_table, is_tuple, is_tuple_of,
    is_word,
)


class ValuesTest(unittest.TestCase):
    def test_integers(self):
        for thing in (0, 1, -1, 10 ** 39):
            self.assertIs(is_integer(thing), True)
        for thing in (True, False, None, "1", (1,), [1], {}):
            self.assertIs(is_integer(thing), False)

    def test_words(self):
        for thing in ("a", "z", "zzzzzzzzzz", "abcdefghij"):
            self.assertIs(is_word(thing), True, thing)
        for thing in ("", "abcdefghijk", "A", "aB", "a1", "a b", " a", "a\n", "`", "{", "-", None, 1, True, ("a",),
                      ["a"], {"a": 1}):
            self.assertIs(is_word(thing), False, thing)

    def test_ascending(self):
        for things in ((), (1,), (1, 2, 10), ("B", "a", "ab"), ((1, 2), (1, 2, 0), (2,))):
            self.assertIs(is_ascending(things), True, things)
        for things in ((1, 1), (2, 1), (1, 2, 2), (1, 3, 2), ("a", "B"), ((2,), (1, 2))):
            self.assertIs(is_ascending(things), False, things)

    def test_positions(self):
        things = (-1, 0, 1, 2, 3, True, False, None, "0", 10 ** 39)
        self.assertEqual([thing for thing in things if is_position(thing, 2)], [0, 1])
        self.assertIs(is_position(True, 2), False)
        self.assertIs(is_position(0, 0), False)

    def test_tuples(self):
        things = ((1, 2), (), (1,), (1, 2, 3), [1, 2], "ab", {1: 1, 2: 2}, None)
        self.assertEqual([is_tuple(thing, 2) for thing in things], [True] + [False] * 7)
        self.assertEqual([is_tuple_of(thing, is_word) for thing in ((), ("a", "a"), ("a", 1), ["a"], "a", None)],
                         [True, True, False, False, False, False])
        things = ((), ("a", "b"), ("b", "a"), ("a", "a"), ["a"], (1, 2))
        self.assertEqual([are_ascending_words(thing) for thing in things], [True, True, False, False, False, False])

    def test_tables(self):
        for thing in ((), (("a", 1),), (("a", 2), ("b", 1))):
            self.assertIs(is_table(thing, is_integer), True, thing)
        for thing in ([], None, (("b", 1), ("a", 2)), (("a", 1), ("a", 2)), (("a", "b"),), (("A", 1),), (("a",),),
                      ("a",), (["a", 1],), (("a", 1), None), (("a", 1, 1),), {"a": 1}):
            self.assertIs(is_table(thing, is_integer), False, thing)

    def test_states(self):
        for thing in ((0, 0), (1, 2)):
            self.assertIs(is_state_tuple((2, 3), thing), True)
        for thing in ((2, 0), (0, 3), (-1, 0), (0,), (0, 0, 0), [0, 0], (True, 0), (None, 0), None, ()):
            self.assertIs(is_state_tuple((2, 3), thing), False, thing)
        self.assertIs(is_state_tuple((), ()), True)


if __name__ == "__main__":
    unittest.main()
