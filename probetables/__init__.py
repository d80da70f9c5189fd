"""Open hash tables, and which rules of deleting keep every look-up right."""
