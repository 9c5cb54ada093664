"""Rewriters that make texts out of texts."""
