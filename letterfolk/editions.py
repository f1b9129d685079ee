"""Libraries: editions of code, each with the table that leads to it from the one below; what a house loads."""

from letterfolk.errors import NoStep
from letterfolk.kinds import is_count, is_pair, is_word
from letterfolk.looks import is_code
from letterfolk.sums import has_self
from letterfolk.trees import are_sums

MOST_VALUES = 26
VOID_TABLE = ((), ())


def _are_selfless(thing):
    """Whether the thing is a tuple of sums in which self stands nowhere."""
    return are_sums(thing) and not any([has_self(amount) for amount in thing])


def _is_state_row(thing, elder, own):
    """Whether the thing is (behaviour, (other, sums)), elder and own how many params each behaviour has."""
    if not is_pair(thing) or not is_pair(thing[1]):
        return False
    name, (other, sums) = thing
    if not is_word(name) or not is_word(other) or not _are_selfless(sums):
        return False
    return name in elder and own.get(other) == len(sums)


def _is_letter_row(thing):
    """Whether the thing is ((tag, many), (tag, sums))."""
    if not is_pair(thing) or not is_pair(thing[0]) or not is_pair(thing[1]):
        return False
    (tag, many), (other, sums) = thing
    if not is_word(tag) or not is_count(many) or many > MOST_VALUES:
        return False
    return is_word(other) and _are_selfless(sums)


def _rise(rows):
    """Whether the rows rise by their first things, unlike ones."""
    return all([rows[k - 1][0] < rows[k][0] for k in range(1, len(rows))])


def _is_table(thing, elder, own):
    """Whether the thing is (states, letters)."""
    if not is_pair(thing) or not isinstance(thing[0], tuple) or not isinstance(thing[1], tuple):
        return False
    states, letters = thing
    if not all([_is_state_row(row, elder, own) for row in states]) or not all([_is_letter_row(row) for row in letters]):
        return False
    return _rise(states) and _rise(letters)


def is_library(thing):
    """Whether the thing is a library."""
    if not isinstance(thing, tuple) or not thing:
        return False
    if not all([is_pair(edition) and is_code(edition[0]) for edition in thing]) or thing[0][1] != VOID_TABLE:
        return False
    many = [{behaviour[0]: len(behaviour[1]) for behaviour in code} for code, _ in thing]
    return all([_is_table(thing[k][1], many[k - 1], many[k]) for k in range(1, len(thing))])


def is_edition(library, thing):
    """Whether the thing is the number of an edition of the library."""
    return is_count(thing) and thing < len(library)


def load(library, loaded, edition):
    """What is loaded behind the edition, any thing, which must be the one above the newest."""
    newest = loaded[-1]
    if not is_edition(library, edition) or edition != newest + 1:
        raise NoStep("edition")
    return (newest, edition)
