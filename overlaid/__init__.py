"""Overlaid: words that laid over themselves cover a text."""
