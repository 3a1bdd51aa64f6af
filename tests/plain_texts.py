"""Texts of pages and books told again by patterns, to compare the program with."""

import re

from tests import plain

NUMBER = "(?:0|-?[1-9][0-9]{0,59})"
NAME = "[a-z]{1,8}"
RULE = (
    f"hours {NUMBER} {NUMBER}|least {NAME} {NUMBER}|most {NAME} {NUMBER}|looked {NUMBER}|with {NAME}|never"
)
PAGE = (
    f"read {NUMBER} {NUMBER} {NAME} {NUMBER}|look {NUMBER} {NUMBER} {NAME}"
    f"|rule {NUMBER} {NUMBER} {NAME} (?:-|(?:{RULE})(?:, (?:{RULE})){{0,5}})"
)


def things(text):
    return tuple(int(part) if re.fullmatch(NUMBER, part) else part for part in text.split(" "))


def page(of, text):
    """The page so written, None without one."""
    if type(text) is not str or not re.fullmatch(PAGE, text):
        return None
    found = things(text)
    if text.startswith("rule "):
        head, rest = re.fullmatch("(rule [^ ]+ [^ ]+ [^ ]+) (.+)", text).groups()
        found = things(head) + (() if rest == "-" else tuple(things(part) for part in rest.split(", ")),)
    return found if plain.page(of, found) else None


def book(of, text):
    """The book so written, None without one."""
    if type(text) is not str:
        return None
    found = tuple(page(of, line) for line in text.split("\n")) if text else ()
    return found if None not in found and plain.book(of, found) else None


def edits(text, signs):
    """The text with one sign put in, left out, twice or exchanged, or two that stand side by side exchanged."""
    for at in range(len(text) + 1):
        for sign in signs:
            yield text[:at] + sign + text[at:]
    for at in range(len(text)):
        yield text[:at] + text[at + 1:]
        yield text[:at] + text[at] + text[at:]
        yield text[:at] + text[at:at + 2][::-1] + text[at + 2:]
        for sign in signs:
            yield text[:at] + sign + text[at + 1:]


def word_edits(text, words, blank=" "):
    """The text with one word left out, twice, exchanged with another one or put in."""
    parts = text.split(blank)
    for at in range(len(parts)):
        yield blank.join(parts[:at] + parts[at + 1:])
        yield blank.join(parts[:at] + parts[at:at + 1] + parts[at:])
        yield blank.join(parts[:at] + parts[at:at + 2][::-1] + parts[at + 2:])
    for at in range(len(parts) + 1):
        for word in words:
            yield blank.join(parts[:at] + [word] + parts[at:])
            yield blank.join(parts[:at] + [word] + parts[at + 1:])
