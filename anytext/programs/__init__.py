"""Books, and programs on texts."""
