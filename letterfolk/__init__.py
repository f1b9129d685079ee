"""Letterfolk: folk that take letters by arms, told by trees of code, by its texts and by its rows."""
