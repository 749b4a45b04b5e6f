"""The desk, with its edits and its moments."""
