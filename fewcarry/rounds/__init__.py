"""Rounds: balances for a whole book, found by solving for a few of its loads only."""
