"""Thinning: how a few rows with new weights are picked from a book."""
