"""Patterns: terms that describe sets of texts."""
