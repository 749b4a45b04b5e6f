"""What languages can tell: least and greatest tables, and the order of rows."""
