"""Letters, alphabets and texts."""
