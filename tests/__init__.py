"""Tests of shelfmark."""
