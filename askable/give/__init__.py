"""Tables that others give, and tables that tell a secret."""
