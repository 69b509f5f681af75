"""Headers: whole numbers that tell by bits of a thing's kind, mark, last words and size."""

KIND_BITS = 3
MARK_BIT = 4
WORDS_BIT = 8
SIZE_FROM = 4


def header(kind, marked, words, size):
    bare = kind | (size << SIZE_FROM)
    return with_words(with_mark(bare, marked), words)


def kind_in(number):
    return number & KIND_BITS


def size_in(number):
    return number >> SIZE_FROM


def is_marked(number):
    return (number & MARK_BIT) != 0


def has_words(number):
    return (number & WORDS_BIT) != 0


def with_mark(number, marked):
    return with_bit(number, MARK_BIT, marked)


def with_words(number, words):
    return with_bit(number, WORDS_BIT, words)


def with_bit(number, bit, is_set):
    return number | bit if is_set else number - (number & bit)
