"""Exact numbers: fractions, spans of them, and the errors of the program."""
