"""Tellwords: words that the other words of a book tell."""
