"""Houses looked at: (h, clock, made, loaded, folk, words), folk pairs of a number and a life."""

from letterfolk.errors import NoFolk
from letterfolk.kinds import is_number


def void_house(h, *, clock=0, made=0, loaded=(0,)):
    """The house of nobody, without words."""
    return (h, clock, made, loaded, (), ())


def life_of(house, number):
    """The life of who lives in the house by this number, any thing."""
    # True is no number of anybody, though it equals 1.
    if is_number(number):
        for n, life in house[4]:
            if n == number:
                return life
    raise NoFolk(number)


def around_of(house):
    """The next number, the numbers of those who live there, and the words with whom has them."""
    _, _, made, _, folk, words = house
    return (made, tuple([n for n, _ in folk]), words)
