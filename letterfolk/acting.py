"""Acts: who is ready looks through its mailbox, takes the first letter that an arm fits, or is late."""

from letterfolk.answers import is_child
from letterfolk.coderows import made
from letterfolk.ends import settle
from letterfolk.errors import NoStep
from letterfolk.fitting import waits_of
from letterfolk.homes import Home
from letterfolk.houses import life_of
from letterfolk.keepers import keeps
from letterfolk.looks import behaviour_at
from letterfolk.mailboxes import look_through
from letterfolk.moving import moved
from letterfolk.rising import with_one, without
from letterfolk.rowtaking import row_late, row_taken, row_waits
from letterfolk.treetaking import late_taken, taken


def _behaviour_of(library, state):
    return behaviour_at(library[state[2]][0], state[0])


def _first_mark(life, by):
    """From which mail on it looks: by the tree from the first one on, as no mark is kept there."""
    return life.mark if by == "rows" else 0


def _look(library, home, n, by):
    life = home.folk[n]
    mailbox = (_first_mark(life, by), tuple(life.mails))
    return look_through(library, life.what, mailbox, address=home.address_of(n))


def _may_be_late(library, home, n, by):
    """Whether as many ticks went by as its late waits."""
    life = home.folk[n]
    behaviour, values = _behaviour_of(library, life.what), life.what[1]
    if by == "rows":
        waits = row_waits(made(behaviour), values, address=home.address_of(n))
    else:
        waits = waits_of(behaviour, values, address=home.address_of(n))
    return waits is not None and home.clock - life.since >= waits


def _is_ready(library, home, n, by):
    life = home.folk[n]
    if keeps(life.what):
        return False
    if by == "rows" and len(life.mails) > life.mark:
        return True
    if _may_be_late(library, home, n, by):
        return True
    if by == "rows":
        return False
    found, unseen, _, _ = _look(library, home, n, by)
    return found is not None or len(unseen) > 0


def ready(library, house, *, by="rows"):
    """The numbers of all who are ready."""
    home = Home(house)
    return tuple([n for n in sorted(home.folk) if _is_ready(library, home, n, by)])


def _taken(library, home, n, letter, by):
    """(deeds, next) of who takes the letter, as it reads."""
    state = home.folk[n].what
    behaviour = _behaviour_of(library, state)
    if by == "rows":
        return row_taken(made(behaviour), state, letter, address=home.address_of(n), around=home.around())
    return taken(behaviour, state, letter, address=home.address_of(n), around=home.around())


def _late(library, home, n, by):
    """(deeds, next) of who is late."""
    state = home.folk[n].what
    behaviour = _behaviour_of(library, state)
    if by == "rows":
        return row_late(made(behaviour), state, address=home.address_of(n), around=home.around())
    return late_taken(behaviour, state, address=home.address_of(n), around=home.around())


def _send(home, address, to, sender, edition, letter):
    """A letter from who acts at the address, or, sender None, from its house."""
    if home.has_here(to):
        home.give(sender, to, edition, letter)
    else:
        home.outs.append((address, to, ("letter", edition, letter)))


def _make(home, address, deed):
    _, other, state, how = deed
    home.settle_in(other, state, address)
    home.made += 1
    if how == "linked":
        home.tie(address, other)
    if how == "watched":
        _watch(home, address, other)


def _link(home, address, to):
    """Link; what is heard of it behind the next is told."""
    life, other = home.living(address), home.living(to)
    life.has = with_one(life.has, to)
    if not home.has_here(to):
        home.outs.append((address, to, ("link",)))
        return []
    if other is None:
        return [("signal", address, to, "gone")]
    other.has = with_one(other.has, address)
    return []


def _watch(home, address, to):
    """Watch; what is heard of it behind the next is told."""
    life, other = home.living(address), home.living(to)
    life.watches = with_one(life.watches, to)
    if not home.has_here(to):
        home.outs.append((address, to, ("watch",)))
        return []
    if other is None:
        return [("down", address, to, "gone")]
    other.known = with_one(other.known, address)
    return []


def _unlink(home, address, to):
    life, other = home.living(address), home.living(to)
    if other is not None and keeps(other.what) and is_child(other.what, address):
        return
    life.has = without(life.has, to)
    if not home.has_here(to):
        home.outs.append((address, to, ("unlink",)))
    elif other is not None:
        other.has = without(other.has, address)


def _do_deed(home, address, deed):
    """Do one deed of who acts at the address; what it hears of it behind its next is told."""
    word, life = deed[0], home.living(address)
    if word == "send":
        home.events.append(("sent", address, deed[1], deed[2]))
        _send(home, address, deed[1], address, life.what[2], deed[2])
    elif word == "tell":
        home.events.append(("told", address, deed[1]))
    elif word == "ask":
        home.events.append(("asked", address, deed[1], deed[2]))
    elif word == "trap":
        life.traps = deed[1]
    elif word == "make":
        _make(home, address, deed)
    elif word == "unlink":
        _unlink(home, address, deed[1])
    elif word == "name":
        home.events.append(("named", address, deed[1], deed[2]))
        home.put_word(deed[1], deed[2])
    elif word == "link":
        return _link(home, address, deed[1])
    else:
        return _watch(home, address, deed[1])
    return []


def _go(library, home, address, state):
    life = home.living(address)
    life.what = moved(library, home.loaded, state)
    life.mark = 0
    life.since = home.clock
    home.events.append(("went", address, life.what))


def _do(library, home, address, told):
    """All deeds of a take, or of being late, and the next behind them."""
    deeds, last = told
    heard = []
    for deed in deeds:
        heard.extend(_do_deed(home, address, deed))
    if last[0] == "go":
        _go(library, home, address, last[1])
        settle(home, heard)
    else:
        settle(home, [("end", address, last[1], None), *heard])


def _act(library, home, n, by):
    address, life = home.address_of(n), home.folk[n]
    found, unseen, _, mailbox = _look(library, home, n, by)
    life.mark = mailbox[0] if by == "rows" else 0
    life.mails = list(mailbox[1])
    for sender, _, letter in unseen:
        home.events.append(("lost", address, sender, letter, "unseen"))
        _send(home, address, sender, None, None, ("unseen", (address, letter[0])))
    if found is not None:
        (sender, edition, letter), read = found
        home.events.append(("took", address, sender, edition, letter, read))
        _do(library, home, address, _taken(library, home, n, read, by))
    elif _may_be_late(library, home, n, by):
        home.events.append(("late", address))
        _do(library, home, address, _late(library, home, n, by))


def is_ready(library, house, number, *, by):
    """Whether somebody lives by the number, and is ready."""
    home = Home(house)
    return number in home.folk and _is_ready(library, home, number, by)


def acted(library, house, number, *, by="rows"):
    """(house, events, outs) of an act of who lives by the number, any thing, by rows or by the tree."""
    life_of(house, number)
    home = Home(house)
    if not _is_ready(library, home, number, by):
        raise NoStep("still")
    _act(library, home, number, by)
    return home.told()
