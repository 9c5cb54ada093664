"""Machines that accept texts."""
