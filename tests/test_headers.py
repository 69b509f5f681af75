import unittest

from heapsafe.headers import has_words, header, is_marked, kind_in, size_in, with_mark, with_words

KINDS = (0, 1, 2)
TRUTHS = (False, True)
SIZES = (2, 3, 4, 7, 8, 11, 15, 16, 17, 2**64, 10**50 + 7, 10**59 + 3, 10**60 - 1)


def all_parts():
    return [(kind, marked, words, size)
            for kind in KINDS for marked in TRUTHS for words in TRUTHS for size in SIZES]


def parts_of(number):
    return (kind_in(number), is_marked(number), has_words(number), size_in(number))


class HeadersAreBits(unittest.TestCase):
    def test_written_out(self):
        self.assertEqual(header(0, False, False, 2), 0b100000)
        self.assertEqual(header(1, False, False, 2), 0b100001)
        self.assertEqual(header(2, False, False, 2), 0b100010)
        self.assertEqual(header(0, True, False, 2), 0b100100)
        self.assertEqual(header(0, False, True, 2), 0b101000)
        self.assertEqual(header(0, True, True, 2), 0b101100)
        self.assertEqual(header(0, True, True, 11), 0b10111100)
        self.assertEqual(header(1, True, False, 3), 0b110101)
        self.assertEqual(header(2, True, False, 4), 0b1000110)
        self.assertEqual(header(2, True, True, 4), 0b1001110)

    def test_a_size_of_more_than_fifty_figures_written_out(self):
        size = 10**51 + 1
        self.assertEqual(header(2, False, True, size), 16000000000000000000000000000000000000000000000000026)

    def test_every_mix_is_the_sum_of_its_bits(self):
        for kind, marked, words, size in all_parts():
            number = header(kind, marked, words, size)
            told = kind + (4 if marked else 0) + (8 if words else 0) + 16 * size
            self.assertEqual(number, told, (kind, marked, words, size))
            self.assertIs(type(number), int)


class WhatHeadersTell(unittest.TestCase):
    def test_each_part_is_told_again(self):
        for parts in all_parts():
            self.assertEqual(parts_of(header(*parts)), parts)

    def test_numbers_that_were_written_by_hand(self):
        self.assertEqual(parts_of(0b100000), (0, False, False, 2))
        self.assertEqual(parts_of(0b110101), (1, True, False, 3))
        self.assertEqual(parts_of(0b1001010), (2, False, True, 4))
        self.assertEqual(parts_of(0b10111100), (0, True, True, 11))

    def test_whole_numbers_and_truths(self):
        for parts in all_parts():
            number = header(*parts)
            self.assertIs(type(kind_in(number)), int)
            self.assertIs(type(size_in(number)), int)
            self.assertIs(is_marked(number), parts[1])
            self.assertIs(has_words(number), parts[2])


class ChangedHeaders(unittest.TestCase):
    def test_with_mark_changes_the_mark_alone(self):
        for kind, marked, words, size in all_parts():
            number = header(kind, marked, words, size)
            self.assertEqual(with_mark(number, marked), number)
            turned = with_mark(number, not marked)
            self.assertEqual(turned, header(kind, not marked, words, size))
            self.assertEqual(parts_of(turned), (kind, not marked, words, size))
            self.assertEqual(with_mark(turned, marked), number)

    def test_with_words_changes_the_words_alone(self):
        for kind, marked, words, size in all_parts():
            number = header(kind, marked, words, size)
            self.assertEqual(with_words(number, words), number)
            turned = with_words(number, not words)
            self.assertEqual(turned, header(kind, marked, not words, size))
            self.assertEqual(parts_of(turned), (kind, marked, not words, size))
            self.assertEqual(with_words(turned, words), number)

    def test_changed_headers_are_whole_numbers(self):
        for parts in all_parts():
            for truth in TRUTHS:
                self.assertIs(type(with_mark(header(*parts), truth)), int)
                self.assertIs(type(with_words(header(*parts), truth)), int)


if __name__ == "__main__":
    unittest.main()
