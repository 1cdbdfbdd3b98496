"""Hearths: a fire carried through a house without rings."""
