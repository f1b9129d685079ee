"""What comes of taking a letter, and of being late, by the tree."""

from letterfolk.fitting import arm_bindings, fitting
from letterfolk.hands import Hands
from letterfolk.sums import bound, worth


def _worth_of(hands, amount):
    return worth(amount, bindings=hands.bindings, address=hands.address)


def _worths_of(hands, sums):
    return tuple([_worth_of(hands, amount) for amount in sums])


def _do_act(hands, act):
    word = act[0]
    if word == "send":
        hands.send(_worth_of(hands, act[1]), act[2], _worths_of(hands, act[3]))
    elif word == "make":
        hands.make(act[1], act[2], _worths_of(hands, act[3]), act[4])
    elif word == "name":
        hands.give_word(act[1], _worth_of(hands, act[2]))
    elif word == "ask":
        hands.ask(act[1], act[2])
    elif word == "trap":
        hands.trap(_worth_of(hands, act[1]))
    elif word == "tell":
        hands.tell(_worth_of(hands, act[1]))
    else:
        hands.reach(word, _worth_of(hands, act[1]))


def _done(hands, acts, last):
    for act in acts:
        _do_act(hands, act)
    if last[0] == "go":
        return hands.go(last[1], _worths_of(hands, last[2]))
    return hands.end(_worth_of(hands, last[1]))


def taken(behaviour, state, letter, *, address, around):
    """(deeds, next) of taking the letter, None where no arm fits."""
    _, values, edition = state
    k = fitting(behaviour, values, letter, address=address)
    if k is None:
        return None
    arm = behaviour[2][k]
    bindings = arm_bindings(behaviour, values, arm, letter)
    return _done(Hands(address, edition, around, bindings), arm[3], arm[4])


def late_taken(behaviour, state, *, address, around):
    """(deeds, next) of being late, None where it has no late."""
    late = behaviour[3]
    if late is None:
        return None
    _, values, edition = state
    bindings = bound((), names=behaviour[1], values=values)
    return _done(Hands(address, edition, around, bindings), late[1], late[2])
