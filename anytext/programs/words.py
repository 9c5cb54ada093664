"""The words that have a meaning in the notation of programs, and so are no names."""

WORDS = ("turn", "rewrite", "if", "in", "then", "else", "need", "give")
NAME_LETTERS = "abcdefghijklmnopqrstuvwxyz"
