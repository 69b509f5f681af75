"""Deeds and programs, as tuples and as texts."""

from heapsafe.errors import NoDeed

MOST_FIELDS = 8
MOST_FIGURES = 60
FIGURES = "0123456789"

# What stands behind each word, part by part.
PARTS = {
    "num": ("root", "number"),
    "make": ("root", "fields"),
    "weak": ("root", "root"),
    "pair": ("root", "root", "root"),
    "words": ("root", "number"),
    "put": ("root", "number", "root"),
    "get": ("root", "root", "number"),
    "look": ("root", "root"),
    "find": ("root", "root", "root"),
    "copy": ("root", "root"),
    "drop": ("root",),
    "tell": ("root",),
    "same": ("root", "root"),
    "hear": ("root",),
}


def is_root(text):
    return len(text) == 1 and "a" <= text <= "z"


def is_number(text):
    if not 1 <= len(text) <= MOST_FIGURES:
        return False
    if text[0] == "0" and len(text) > 1:
        return False
    return all([sign in FIGURES for sign in text])


def is_whole(value):
    return isinstance(value, int) and not isinstance(value, bool)


# None stands for a text that is no part of the wanted sort.
def part_read(text, wanted):
    if wanted == "root":
        return text if is_root(text) else None
    if not is_number(text):
        return None
    number = int(text)
    return None if wanted == "fields" and number > MOST_FIELDS else number


def deed_read(text):
    words = text.split(" ")
    wanted = PARTS.get(words[0])
    if wanted is None or len(words) != len(wanted) + 1:
        raise NoDeed(1)
    parts = [part_read(word, sort) for word, sort in zip(words[1:], wanted)]
    if any([part is None for part in parts]):
        raise NoDeed(1)
    return tuple([words[0]] + parts)


def deed_shown(deed):
    return " ".join([str(part) for part in deed])


def program_read(text):
    if text == "":
        return []
    deeds = []
    for number, row in enumerate(text.split("\n"), start=1):
        try:
            deeds.append(deed_read(row))
        except NoDeed:
            raise NoDeed(number) from None
    return deeds


def program_shown(deeds):
    return "\n".join([deed_shown(deed) for deed in deeds])


def fits(part, wanted):
    return isinstance(part, str) if wanted == "root" else is_whole(part)


# How great the numbers are is not asked: a deed that was never a text may go beyond what texts are held to.
def is_deed(some):
    if not isinstance(some, tuple) or len(some) == 0 or not isinstance(some[0], str):
        return False
    wanted = PARTS.get(some[0])
    if wanted is None or len(some) != len(wanted) + 1:
        return False
    return all([fits(part, sort) for part, sort in zip(some[1:], wanted)])
