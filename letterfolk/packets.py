"""Posts, and packets with their things, by kind."""

from letterfolk.editions import is_edition
from letterfolk.kinds import is_address, is_count, is_letter, is_pair, is_word


def _is_house_post(thing):
    return is_pair(thing) and thing[0] == "house" and is_count(thing[1])


def is_post(thing):
    """Whether the thing is an address, or ("house", h)."""
    return is_address(thing) or _is_house_post(thing)


def _is_letter_thing(library, thing):
    if len(thing) != 3 or not is_letter(thing[2]):
        return False
    return thing[1] is None or is_edition(library, thing[1])


def _is_folk_thing(library, thing):
    """Whether the thing is one that goes from an address to an address."""
    if not isinstance(thing, tuple) or not thing:
        return False
    word = thing[0]
    if word == "letter":
        return _is_letter_thing(library, thing)
    if word in ("signal", "down"):
        return len(thing) == 2 and is_word(thing[1])
    return word in ("link", "unlink", "watch") and len(thing) == 1


def _is_word_thing(thing):
    """Whether the thing is one that goes from a house to a house."""
    if not isinstance(thing, tuple) or len(thing) != 4 or thing[0] != "word":
        return False
    return is_word(thing[1]) and is_address(thing[2]) and isinstance(thing[3], bool)


def is_packet(library, thing):
    """Whether the thing is (link, from, to, number, thing)."""
    if not isinstance(thing, tuple) or len(thing) != 5:
        return False
    link, sender, to, number, given = thing
    if not is_count(link) or not is_count(number):
        return False
    if is_address(sender) and is_address(to):
        return _is_folk_thing(library, given)
    return _is_house_post(sender) and _is_house_post(to) and _is_word_thing(given)
