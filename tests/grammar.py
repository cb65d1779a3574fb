"""Grammars as derivatives: which character of a text is the first such that no right text begins so.

A grammar is NOTHING (no text), () (the empty text only), ("char", characters), ("then", one, other),
("or", one, other), ("many", one) or ("rule", name) for a grammar in RULES, which is never empty and does not
begin with itself. The functions keep NOTHING out of all others, so that a grammar other than NOTHING has a text.
"""

NOTHING = None
DONE = ()
RULES = {}


def char(characters):
    return ("char", characters)


def then(*parts):
    whole = DONE
    for part in reversed(parts):
        if part is NOTHING or whole is NOTHING:
            return NOTHING
        if part != DONE:
            whole = part if whole == DONE else ("then", part, whole)
    return whole


def either(*parts):
    found = []
    for part in parts:
        if part is not NOTHING and part not in found:
            found.append(part)
    whole = NOTHING
    for part in reversed(found):
        whole = part if whole is NOTHING else ("or", part, whole)
    return whole


def many(part):
    return ("many", part)


def word(letters):
    return then(*[char(letter) for letter in letters])


def may_end(grammar):
    if grammar is NOTHING or grammar == DONE:
        return grammar == DONE
    kind = grammar[0]
    if kind == "then":
        return may_end(grammar[1]) and may_end(grammar[2])
    if kind == "or":
        return may_end(grammar[1]) or may_end(grammar[2])
    return kind == "many"


def behind(grammar, letter):
    """The grammar of what may follow the letter."""
    if grammar is NOTHING or grammar == DONE:
        return NOTHING
    kind = grammar[0]
    if kind == "rule":
        return behind(RULES[grammar[1]], letter)
    if kind == "char":
        return DONE if letter in grammar[1] else NOTHING
    if kind == "or":
        return either(behind(grammar[1], letter), behind(grammar[2], letter))
    if kind == "many":
        return then(behind(grammar[1], letter), grammar)
    following = then(behind(grammar[1], letter), grammar[2])
    if may_end(grammar[1]):
        return either(following, behind(grammar[2], letter))
    return following


def wrong_at(grammar, text):
    """The position of [1.3], or None for a right text."""
    for at, letter in enumerate(text):
        grammar = behind(grammar, letter)
        if grammar is NOTHING:
            return at
    return None if may_end(grammar) else len(text)


NUMBER = either(char("0"), then(char("123456789"), many(char("0123456789"))))
SORT = either(word("alpha"), word("beta"), word("rc"))
EARLY = either(DONE, then(char("-"), SORT, char("."), NUMBER))
VERSION = then(NUMBER, char("."), NUMBER, char("."), NUMBER, EARLY)
SIGN = either(*[word(sign) for sign in (">=", ">", "<=", "<", "=", "^", "~")])
PART = either(char("*"), then(SIGN, VERSION))
ROW = then(PART, many(then(char(" "), PART)))
RANGE = then(ROW, many(then(word(" || "), ROW)))


def some_letters(most):
    """One letter to so many."""
    whole = DONE
    for _ in range(most):
        whole = then(char("abcdefghijklmnopqrstuvwxyz"), either(DONE, whole))
    return whole


WORD = some_letters(10)
CONDITION = ("rule", "condition")
JOINT = either(word(" and "), word(" or "))
RULES["condition"] = either(word("always"), then(WORD, char("="), WORD), then(word("not "), CONDITION),
                            then(char("("), CONDITION, JOINT, CONDITION, char(")")))
# Without the order of the options, which is tested by itself.
OPTIONS = then(char("["), WORD, many(then(char(","), WORD)), char("]"))
NEED = then(WORD, either(DONE, OPTIONS), char(" "), RANGE, either(DONE, then(word(" if "), CONDITION)))


def spoiled(text, letters):
    """A text with each character left out, doubled, exchanged, or replaced, or another one put before it."""
    found = []
    for at in range(len(text) + 1):
        before, here, after = text[:at], text[at:at + 1], text[at + 1:]
        found += [before, before + after, before + here + here + after, before + after[:1] + here + after[1:]]
        for letter in letters:
            found += [before + letter + after, before + letter + here + after]
    return found
