"""Primetree: the tree of the grids of a prime."""
