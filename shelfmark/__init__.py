"""Shelfmark: marks for a shelf that always leave room."""
