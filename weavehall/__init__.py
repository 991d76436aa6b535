"""Weavehall: cloths, the looms that make them, and whether they hang together."""
