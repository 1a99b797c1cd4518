"""Entryhall: an insertion-ordered dictionary that shows its inside."""
