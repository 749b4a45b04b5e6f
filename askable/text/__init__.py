"""Texts of values, and the shell of a desk."""
