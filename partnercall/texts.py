"""Texts of pairings and words."""

from partnercall.errors import BadText, NoPerson
from partnercall.pairings import couples, pairing_of

DIGITS = "0123456789"
MOST_DIGITS = 13


def number_in(text):
    """Return the number with this text, None if it is not that of a number."""
    if not 1 <= len(text) <= MOST_DIGITS:
        return None
    # Python takes other digits than these for digits, too.
    if not all([sign in DIGITS for sign in text]):
        return None
    if text[0] == "0" and len(text) > 1:
        return None
    return int(text)


def call_in(text):
    """Return the CALL with this text, None if it is not that of a CALL."""
    parts = text.split("-")
    if len(parts) != 2:
        return None
    a = number_in(parts[0])
    b = number_in(parts[1])
    if a is None or b is None or a >= b:
        return None
    return (a, b)


def call_text(call):
    """Return the text of a CALL or a COUPLE."""
    a, b = call
    return f"{a}-{b}"


def pairing_text(pairing):
    """Return the text of a PAIRING."""
    return " ".join([call_text(couple) for couple in couples(pairing)])


def word_text(word):
    """Return the text of a WORD."""
    for call in word:
        for person in call:
            # How many people there are is not known here, but nobody has a number below 0.
            if person < 0:
                raise NoPerson(person)
    if len(word) == 0:
        return "."
    return " ".join([call_text(call) for call in word])


def pairing_in(text):
    """Return the PAIRING with this text."""
    words = text.split(" ")
    found = []
    seen = set()
    for at, word in enumerate(words):
        couple = call_in(word)
        if couple is None or couple[1] >= 2 * len(words):
            raise BadText(at)
        if couple[0] in seen or couple[1] in seen:
            raise BadText(at)
        if at > 0 and couple < found[-1]:
            raise BadText(at)
        found.append(couple)
        seen.add(couple[0])
        seen.add(couple[1])
    # All of them are different and less than twice as many, so everybody is there.
    return pairing_of(found)


def word_in(text):
    """Return the list of CALLs with this text."""
    if text == ".":
        return []
    found = []
    for at, word in enumerate(text.split(" ")):
        call = call_in(word)
        if call is None:
            raise BadText(at)
        found.append(call)
    return found
