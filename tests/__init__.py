"""The tests of fewcarry."""
