"""Logs as texts."""

from heapsafe.errors import NoDeed, NoLog
from heapsafe.programs import deed_read, deed_shown, is_number

ANSWERS = ("ok", "yes", "no", "none", "thing", "nothing", "no thing", "no field", "no room")
BARE = ("begin", "end", "packed")
ARROW = " -> "
LISTS_OF_A_TURN = 7


def serials_shown(serials):
    return "".join([f" {serial}" for serial in serials])


def row_shown(row):
    if row[0] == "deed":
        return deed_shown(row[1]) + ARROW + row[2]
    if row[0] == "freed":
        return "freed" + serials_shown(row[1])
    if row[0] == "turn":
        return "turn" + "".join([" |" + serials_shown(serials) for serials in row[1:]])
    return row[0]


def log_shown(log):
    return "\n".join([row_shown(row) for row in log])


def log_read(text):
    if text == "":
        return []
    log = []
    for number, row in enumerate(text.split("\n"), start=1):
        told = row_read(row)
        if told is None:
            raise NoLog(number)
        log.append(told)
    return log


# Here and below None stands for what is none: only log_read knows the row's number for the refusal.
def row_read(row):
    if row in BARE:
        return (row,)
    words = row.split(" ")
    if words[0] == "freed":
        return freed_read(words[1:])
    if words[0] == "turn":
        return turn_read(words[1:])
    return deed_row_read(row)


def freed_read(words):
    serials = serials_read(words)
    return None if serials is None else ("freed", serials)


def turn_read(words):
    lists = [serials_read(some) for some in parted(words)]
    if len(lists) != LISTS_OF_A_TURN or any([serials is None for serials in lists]):
        return None
    return tuple(["turn"] + lists)


# One list of words for each bar; words ahead of the first bar stand in no list, so that nothing is read of them.
def parted(words):
    if len(words) == 0 or words[0] != "|":
        return []
    lists = []
    for word in words:
        if word == "|":
            lists.append([])
        else:
            lists[-1].append(word)
    return lists


def serials_read(words):
    if not all([is_number(word) for word in words]):
        return None
    return [int(word) for word in words]


def deed_row_read(row):
    parts = row.partition(ARROW)
    if parts[2] not in ANSWERS and not is_number(parts[2]):
        return None
    try:
        deed = deed_read(parts[0])
    except NoDeed:
        return None
    return ("deed", deed, parts[2])
