"""Counting: how many lists of owners are possible, and which one has which index."""

from numberbooks.checks import check_count
from numberbooks.errors import InvalidOwners, TooLarge
from numberbooks.owners import Reach
from numberbooks.walks import check_possible

GREATEST_BLOCK = 200


def owners_by_block(log):
    """For each block from 0 to M the servers that can have taken it, after the errors for the log.

    A list of owners is possible if it has one of them for each block (see Reach): the lists are counted like numbers
    with a digit for each block.
    """
    if log.last_block() > GREATEST_BLOCK:
        raise TooLarge("lists of owners are for blocks up to 200")
    check_possible(log)
    reach = Reach(log)
    rows = []
    for index, (first, last) in enumerate(reach.spans):
        rows.extend([reach.owners_in(index)] * (last + 1 - first))
    return rows


def count_rows(rows):
    """The number of choices of one server from each row."""
    many = 1
    for row in rows:
        many = many * len(row)
    return many


def count_lists(log):
    """The number of possible lists of owners."""
    return count_rows(owners_by_block(log))


def nth_list(log, index):
    """The possible list of owners with an index."""
    rows = owners_by_block(log)
    check_count(index, count_rows(rows) - 1)
    names = []
    rest = index
    for row in reversed(rows):
        names.append(row[rest % len(row)])
        rest = rest // len(row)
    return names[::-1]


def list_index(log, owners):
    """The index of a possible list of owners."""
    rows = owners_by_block(log)
    if not isinstance(owners, list) or len(owners) != len(rows):
        raise InvalidOwners("a list of owners has a server for each block")
    index = 0
    for row, owner in zip(rows, owners):
        index = index * len(row) + place_in(row, owner)
    return index


def place_in(row, owner):
    """The place of an owner, which may be any object, among those that can have taken its block."""
    if owner not in row:
        raise InvalidOwners("this owner cannot have taken the block")
    return row.index(owner)
