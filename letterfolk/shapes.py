"""Sheets of all lives of a house, and the shapes of keepers and their children in them."""

from letterfolk.errors import NoPaper
from letterfolk.keepers import keeps
from letterfolk.kinds import is_address


def sheet_of(house):
    """(address, what, has) of each life of the house."""
    h, folk = house[0], house[4]
    return tuple([(("at", h, n), life[0], life[2]) for n, life in folk])


def by_address(sheet):
    """(what, has) of each address of the sheet."""
    return {address: (what, has) for address, what, has in sheet}


def _shape(lives, address):
    if address not in lives:
        raise NoPaper("lives", address)
    what, _ = lives[address]
    if not keeps(what):
        return (address, None)
    return (address, tuple([None if child is None else _shape(lives, child) for child in what[5]]))


def shape_of(sheet, address):
    """The shape of the address, any thing, by the sheet."""
    # What only equals an address, such as one with True in it, is in no sheet.
    if not is_address(address):
        raise NoPaper("lives", address)
    return _shape(by_address(sheet), address)
