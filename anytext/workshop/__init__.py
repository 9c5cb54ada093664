"""Workshops that keep named things under edits."""
