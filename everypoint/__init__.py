"""Everypoint: solids of half-spaces, read at every point, with exact numbers."""
