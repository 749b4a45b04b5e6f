"""Maps that keep signs: of one place, of keys, keepers and flat rules."""
