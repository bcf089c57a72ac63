"""Markcounts: boards of marks with told counts for each row and each column."""
