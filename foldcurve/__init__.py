"""Foldcurve: a strip folded in half, its creases, and the way that it makes when each is opened to a quarter."""
