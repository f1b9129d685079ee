"""What changes from one code to another, and made code that is made anew only where it must be."""

from letterfolk.coderows import made


def code_changes(one, other):
    """(gone, come, turned): whom the one alone has, the other alone, and both with unlike trees."""
    old = {behaviour[0]: behaviour for behaviour in one}
    new = {behaviour[0]: behaviour for behaviour in other}
    # Code rises by names, and a dict keeps its order: so these rise, too.
    gone = [name for name in old if name not in new]
    come = [name for name in new if name not in old]
    turned = [name for name in new if name in old and old[name] != new[name]]
    return tuple(gone), tuple(come), tuple(turned)


def made_again(one, other, *, rows):
    """The made code of the other, by the rows of the one where a tree is the same, and who was made anew."""
    _, come, turned = code_changes(one, other)
    names = tuple(sorted(come + turned))
    kept = {pair[0]: pair for pair in rows}
    told = []
    for behaviour in other:
        if behaviour[0] in names:
            told.append((behaviour[0], made(behaviour)))
        else:
            told.append(kept[behaviour[0]])
    return tuple(told), names
