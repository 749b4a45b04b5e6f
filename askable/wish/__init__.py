"""Examples, papers of them, and the ladder of the languages."""
