"""Looking through a mailbox, (mark, mails), for the first mail that an arm fits."""

from letterfolk.fitting import fitting
from letterfolk.leading import looked
from letterfolk.looks import behaviour_at


def _looked_at(library, mail, own):
    """What one in the edition own makes of the mail; one of no edition is as of its own."""
    _, edition, letter = mail
    return looked(library, letter, edition=own if edition is None else edition, own=own)


def look_through(library, state, mailbox, *, address):
    """(found, unseen, looks, mailbox): the mail with its letter as read, those that went, how many were read."""
    name, values, own = state
    behaviour = behaviour_at(library[own][0], name)
    mark, mails = mailbox
    kept = list(mails[:mark])
    unseen = []
    looks = 0
    for k in range(mark, len(mails)):
        mail = mails[k]
        told = _looked_at(library, mail, own)
        if told[0] == "unseen":
            unseen.append(mail)
            continue
        if told[0] != "waits":
            looks += 1
            if fitting(behaviour, values, told[1], address=address) is not None:
                return (mail, told[1]), tuple(unseen), looks, (len(kept), (*kept, *mails[k + 1:]))
        kept.append(mail)
    return None, tuple(unseen), looks, (len(kept), tuple(kept))
