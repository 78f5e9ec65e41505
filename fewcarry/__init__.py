"""Fewcarry: few rows that carry a whole table."""
