"""Grids: tables of fractions, and what is computed from them without rounding."""
