"""Anytext: programs on texts and exact claims about them."""
