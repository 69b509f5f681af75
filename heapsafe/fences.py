"""Fences: what is marked and shaded for the deeds that are done while marking."""

from heapsafe.things import names_in


class Fence:
    def __init__(self, word):
        self.called = word

    def word(self):
        return self.called

    def marks_new(self):
        return False

    def shades_look(self):
        return False

    def shades_open(self):
        return False

    def put_shades(self, was, becomes):
        return []


class NewFence(Fence):
    def shades_open(self):
        return True

    def put_shades(self, was, becomes):
        return names_in([becomes])


class OldFence(Fence):
    def marks_new(self):
        return True

    def shades_look(self):
        return True

    def put_shades(self, was, becomes):
        return names_in([was])


def fence_of(word):
    return NewFence(word) if word == "new" else OldFence(word)
