"""Streams: few loads kept for books that grow and change."""
