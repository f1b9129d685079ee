"""Rows led when an edition is loaded."""

from letterfolk.keepers import plans
from letterfolk.leading import state_led


def _state_row_led(library, loaded, state):
    edition, newest = state[2], loaded[-1]
    if edition == newest - 1:
        led = state_led(library, state, to=newest)
        if led is not None:
            return led
    return None if edition < loaded[0] else state


def row_led(library, loaded, row):
    """The row, by what is loaded then; None of a state of an edition that is loaded no more."""
    if row is None:
        return None
    if plans(row):
        return (*row[:4], tuple([row_led(library, loaded, part) for part in row[4]]))
    return _state_row_led(library, loaded, row)
