"""Tables and databases."""
