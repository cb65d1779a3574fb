"""Reading texts, such that each error carries the position of [1.3], or the line of [4.4]."""

from versionjudge.errors import BadText

DIGITS = "0123456789"
LETTERS = "abcdefghijklmnopqrstuvwxyz"
LONGEST_WORD = 10
LAST_WORD = "zzzzzzzzzz"


class Reader:
    """A text of one line, and the position up to which it is read.

    A caller asks only for what makes a right text possible behind what is read already.
    So where something else stands, or nothing, the position that is reached is the wrong one.
    """

    def __init__(self, text):
        if not isinstance(text, str):
            raise BadText(-1)
        self.line = text
        self.at = 0

    def comes(self, word):
        """Whether the word comes next."""
        return self.line.startswith(word, self.at)

    def take(self, word):
        """Read the word if it comes next, and tell whether it did."""
        if not self.comes(word):
            return False
        self.at += len(word)
        return True

    def expect(self, word):
        """Read the word, which must come next."""
        # One by one, so that the error tells which character is wrong.
        for letter in word:
            if not self.take(letter):
                raise BadText(self.at)

    def take_first(self, words):
        """Read and return the first of the words that comes next; one of them must."""
        for word in words:
            if self.take(word):
                return word
        raise BadText(self.at)

    def number(self):
        """Read an integer of 0 or more, written as Python writes it."""
        start = self.at
        # Python writes nothing behind a leading 0, so a digit there is left to the caller as wrong.
        if self.take("0"):
            return 0
        # Not isdigit, which also takes digits of other scripts.
        while self.at < len(self.line) and self.line[self.at] in DIGITS:
            self.at += 1
        if self.at == start:
            raise BadText(start)
        return int(self.line[start:self.at])

    def word(self, below=""):
        """Read a word of 1 to 10 letters that is greater than the one below it."""
        start = self.at
        while self.goes_on(start, below):
            self.at += 1
        found = self.line[start:self.at]
        # A letter that does not go on leaves what is found too low, or it is an eleventh one, which callers reject.
        if found <= below:
            raise BadText(self.at)
        return found

    def goes_on(self, start, below):
        """Whether a letter comes next with which a word can still become greater than the one below it."""
        found = self.line[start:self.at + 1]
        if self.at >= len(self.line) or self.line[self.at] not in LETTERS or len(found) > LONGEST_WORD:
            return False
        # No word that begins with what is found is greater than this one.
        return found.ljust(LONGEST_WORD, "z") > below

    def finish(self):
        """Make sure that nothing is left to read."""
        if self.at < len(self.line):
            raise BadText(self.at)


def read_whole(text, reading):
    """What reading makes of a text of one line, at the end of which it must arrive."""
    reader = Reader(text)
    found = reading(reader)
    reader.finish()
    return found


class LineReader:
    """A text of several lines, and how many of them are read; its errors carry the number of a line."""

    def __init__(self, text):
        if not isinstance(text, str):
            raise BadText(-1)
        self.rows = text.split("\n")
        self.at = 0

    def begins(self, word):
        """Whether there is a next line, and it begins with the word."""
        return self.at < len(self.rows) and self.rows[self.at].startswith(word)

    def expect(self, word):
        """Make sure that a next line comes, and begins with the word."""
        if not self.begins(word):
            raise BadText(self.at + 1)

    def read(self, word, reading):
        """What reading makes of the rest of the next line, which begins with the word."""
        reader = Reader(self.rows[self.at])
        try:
            reader.expect(word)
            found = reading(reader)
            reader.finish()
        except BadText:
            raise BadText(self.at + 1) from None
        self.at += 1
        return found

    def require(self, fits):
        """Make sure that the line that was read last fits to those before it."""
        if not fits:
            raise BadText(self.at)

    def finish(self):
        """Make sure that no line is left to read."""
        if self.at < len(self.rows):
            raise BadText(self.at + 1)


def word_from(reader):
    """Read a word, which other texts may continue."""
    return reader.word()


def words_from(reader):
    """Read ascending words, separated by commas."""
    words = [reader.word()]
    # Behind the last word of all no comma is right.
    while words[-1] != LAST_WORD and reader.take(","):
        words.append(reader.word(words[-1]))
    return tuple(words)
