"""The examples of the document, word for word: `raises` stands for the error of the call above it."""

import unittest

from versionjudge.errors import VersionError

VERSIONS = """
>>> from versionjudge.versions import is_early, is_version, next_version, read_version, version_text
>>> [is_version((1, 2, 3, 3, 0)), is_version((1, 2, 3, 3, 1)), is_early((1, 0, 0, 2, 5)), next_version((1, 2, 3, 1, 4)), next_version((1, 2, 3, 3, 0)), version_text((1, 2, 3, 1, 4)), read_version('0.10.0')]
[True, False, True, (1, 2, 3, 1, 5), (1, 2, 4, 0, 0), '1.2.3-beta.4', (0, 10, 0, 3, 0)]
>>> read_version('1.02.3')
raises BadText(at=3)
>>> read_version('1.2.3-b')
raises BadText(at=7)
"""

RANGES = """
>>> from versionjudge.ranges import cut, every, has, is_range, joined, judge_same, judge_within, least_in, only, range_text, read_range, without
>>> ONE, TWO = (1, 0, 0, 3, 0), (2, 0, 0, 3, 0)
>>> [is_range(((ONE, TWO), (TWO, None))), every(), only(ONE), has(((ONE, None),), TWO), least_in(()), joined(((ONE, TWO),), ((TWO, None),)), cut(((ONE, None),), (((0, 0, 0, 0, 0), TWO),)), without(every(), only(ONE))]
[False, (((0, 0, 0, 0, 0), None),), (((1, 0, 0, 3, 0), (1, 0, 1, 0, 0)),), True, None, (((1, 0, 0, 3, 0), None),), (((1, 0, 0, 3, 0), (2, 0, 0, 3, 0)),), (((0, 0, 0, 0, 0), (1, 0, 0, 3, 0)), ((1, 0, 1, 0, 0), None))]
>>> [judge_within(((ONE, None),), ((ONE, TWO),)), judge_same(((ONE, TWO),), ((ONE, TWO),)), read_range('^1.2.0'), read_range('~0.3.1 || >=2.0.0 <2.0.0-rc.1'), range_text(read_range('>1.0.0 <=1.0.2')), range_text(())]
[('version', (2, 0, 0, 3, 0)), ('same',), (((1, 2, 0, 3, 0), (2, 0, 0, 0, 0)),), (((0, 3, 1, 3, 0), (0, 4, 0, 0, 0)),), '>=1.0.1-alpha.0 <1.0.3-alpha.0', '<0.0.0-alpha.0']
>>> read_range('>=1.0.0 | 2')
raises BadText(at=9)
"""


def steps(example):
    """The code of each step of an example, and the row that tells its result, if there is one."""
    rows = example.strip().split("\n")
    for row, following in zip(rows, rows[1:] + [""]):
        if row.startswith(">>> "):
            yield row[4:], None if following.startswith(">>> ") or not following else following


def shown(code, names):
    """What the document shows for an expression."""
    try:
        return repr(eval(code, names))
    except VersionError as error:
        told = ", ".join(f"{name}={value!r}" for name, value in vars(error).items())
        return f"raises {type(error).__name__}({told})"


class ExamplesTest(unittest.TestCase):
    def check(self, example, results):
        names = {}
        checked = 0
        for code, result in steps(example):
            if result is None:
                exec(code, names)
            else:
                self.assertEqual(shown(code, names), result, code)
                checked += 1
        self.assertEqual(checked, results)

    def test_versions(self):
        self.check(VERSIONS, 3)

    def test_ranges(self):
        self.check(RANGES, 3)


if __name__ == "__main__":
    unittest.main()
