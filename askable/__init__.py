"""Askable: which tables can be asked from databases, in twelve query languages."""
