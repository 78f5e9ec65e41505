"""Fits: the multiples of some columns that come nearest to another one, and the volumes of loads."""
