"""What is kept: closed sets, the least of them, what is blind in a set, and a whole turn.

Things are told here as a plain heap tells them: a dict from serials to tuples (kind, fields, words).
"""

from heapsafe.things import NOTHING, is_thing, names_in


def open_things(heap):
    named = names_in(list(heap.roots().values()))
    heard = [serial for serial, words in heap.heard_row()]
    return sorted(set(named + heard))


def members_of(some):
    return dict([(serial, True) for serial in some])


def held_by(thing):
    return names_in(thing[1]) if thing[0] == "plain" else []


# None of all that waits for no key.
def pair_key(thing):
    if thing[0] != "pair" or not is_thing(thing[1][0]):
        return None
    return thing[1][0][1]


# A list, as with what a thing holds: empty if the value is no thing.
def pair_value(thing):
    return names_in(thing[1][1:])


def wanted_by(thing, members):
    if pair_key(thing) in members:
        return pair_value(thing)
    return held_by(thing)


def is_closed(things, some):
    members = members_of(some)
    for serial in some:
        if any([name not in members for name in wanted_by(things[serial], members)]):
            return False
    return True


class Reasons:
    def __init__(self, things, some):
        self.by_serial = things
        self.rows = [(serial, "begin", None) for serial in some]
        self.members = members_of(some)
        self.waiting = {}

    def bring(self, names, how, other):
        for name in names:
            if name not in self.members:
                self.members[name] = True
                self.rows.append((name, how, other))

    def bring_value(self, serial):
        self.bring(pair_value(self.by_serial[serial]), "pair", serial)

    def go_on_from(self, serial):
        thing = self.by_serial[serial]
        self.bring(held_by(thing), "held", serial)
        key = pair_key(thing)
        if key in self.members:
            self.bring_value(serial)
        elif key is not None:
            self.waiting.setdefault(key, []).append(serial)
        for other in self.waiting.get(serial, []):
            self.bring_value(other)

    def grown(self):
        # The rows grow while they are gone through, so each is behind those by which it came.
        at = 0
        while at < len(self.rows):
            self.go_on_from(self.rows[at][0])
            at += 1
        return list(self.rows)


def why_kept(things, some):
    return Reasons(things, some).grown()


def least_closed(things, some):
    return sorted([row[0] for row in why_kept(things, some)])


def blind_of_sort(things, some, sort):
    members = members_of(some)
    blind = []
    for serial in some:
        first = names_in(things[serial][1][:1])
        if things[serial][0] == sort and any([name not in members for name in first]):
            blind.append(serial)
    return blind


def blind_weak(things, some):
    return blind_of_sort(things, some, "weak")


def blind_pairs(things, some):
    return blind_of_sort(things, some, "pair")


def due_beside(things, kept):
    members = members_of(kept)
    return sorted([serial for serial in things if serial not in members and things[serial][2] is not None])


def emptied(things, serials):
    told = dict(things)
    for serial in serials:
        told[serial] = (things[serial][0], [NOTHING] * len(things[serial][1]), None)
    return told


def whole_turn(heap):
    things = heap.things()
    kept = least_closed(things, open_things(heap))
    cleared = blind_weak(things, kept)
    dropped = blind_pairs(things, kept)
    due = due_beside(things, kept)
    later = emptied(things, cleared + dropped)
    stays = least_closed(later, sorted(kept + due))
    return (kept, cleared, dropped, due, stays, blind_weak(later, stays), blind_pairs(later, stays))
