"""What is on the way between linked houses."""


def first_packets(wires):
    """The thing of the first packet on the wires by its link, posts and number."""
    found = {}
    for link, sender, to, number, thing in wires:
        if (link, sender, to, number) not in found:
            found[(link, sender, to, number)] = thing
    return found


def things_of(row, link, packets):
    """The things of a row that went over the link and weren't given, by their numbers."""
    sender, to, sent, given, kept = row
    waiting = dict(kept)
    things = []
    for number in range(given, sent):
        if number in waiting:
            things.append(waiting[number])
        elif (link, sender, to, number) in packets:
            things.append(packets[(link, sender, to, number)])
    return tuple(things)


def things_on_way(land):
    """(from, to, things) of each two posts of linked houses between which something is on the way."""
    _, _, _, pairs, wires, _ = land
    packets = first_packets(wires)
    found = []
    for _, _, link, up, rows in pairs:
        if up:
            for row in rows:
                found.append((row[0], row[1], things_of(row, link, packets)))
    return tuple(sorted([row for row in found if row[2]], key=lambda row: row[:2]))
