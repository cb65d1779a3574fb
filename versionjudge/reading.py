"""Reading texts of one line, such that each error carries the position of [1.3]."""

from versionjudge.errors import BadText

DIGITS = "0123456789"


class Reader:
    """A text of one line, and the position up to which it is read.

    A caller asks only for what makes a right text possible behind what is read already.
    So where something else stands, or nothing, the position that is reached is the wrong one.
    """

    def __init__(self, text):
        if not isinstance(text, str):
            raise BadText(-1)
        self.line = text
        self.at = 0

    def take(self, word):
        """Read the word if it comes next, and tell whether it did."""
        if not self.line.startswith(word, self.at):
            return False
        self.at += len(word)
        return True

    def expect(self, word):
        """Read the word, which must come next."""
        # One by one, so that the error tells which character is wrong.
        for letter in word:
            if not self.take(letter):
                raise BadText(self.at)

    def take_first(self, words):
        """Read and return the first of the words that comes next; one of them must."""
        for word in words:
            if self.take(word):
                return word
        raise BadText(self.at)

    def number(self):
        """Read an integer of 0 or more, written as Python writes it."""
        start = self.at
        # Python writes nothing behind a leading 0, so a digit there is left to the caller as wrong.
        if self.take("0"):
            return 0
        # Not isdigit, which also takes digits of other scripts.
        while self.at < len(self.line) and self.line[self.at] in DIGITS:
            self.at += 1
        if self.at == start:
            raise BadText(start)
        return int(self.line[start:self.at])

    def finish(self):
        """Make sure that nothing is left to read."""
        if self.at < len(self.line):
            raise BadText(self.at)
