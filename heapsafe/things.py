"""Things, and the values in their fields."""

NOTHING = ("nothing",)


def is_thing(value):
    return value[0] == "thing"


def names_in(some):
    return [value[1] for value in some if is_thing(value)]


class Thing:
    def __init__(self, sort, some):
        self.called = sort
        self.parts = list(some)

    def sort_of(self):
        return self.called

    def fields(self):
        return list(self.parts)

    def holds(self):
        return []

    def waits(self):
        return []

    def words(self):
        return None


class PlainThing(Thing):
    def __init__(self, some, last_words):
        Thing.__init__(self, "plain", some)
        self.last_words = last_words

    def holds(self):
        return names_in(self.parts)

    def words(self):
        return self.last_words

    def with_field(self, at, value):
        return PlainThing(self.parts[:at] + [value] + self.parts[at + 1:], self.last_words)

    def with_words(self, words):
        return PlainThing(self.parts, words)


class PairThing(Thing):
    def __init__(self, key, value):
        Thing.__init__(self, "pair", [key, value])

    def waits(self):
        return [(name, self.parts[1]) for name in names_in(self.parts[:1])]


def plain(fields, words):
    return PlainThing(fields, words)


def weak(field):
    return Thing("weak", [field])


def pair(key, value):
    return PairThing(key, value)
