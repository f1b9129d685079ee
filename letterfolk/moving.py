"""In which state one is who says go, by what its house has loaded."""

from letterfolk.leading import state_led


def moved(library, loaded, state):
    """The state, led to the next edition where this is loaded and leads it."""
    above = state[2] + 1
    if above not in loaded:
        return state
    led = state_led(library, state, to=above)
    return state if led is None else led
