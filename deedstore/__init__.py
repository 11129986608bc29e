"""Deedstore: a store of tables with programs inside it."""
