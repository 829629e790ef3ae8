"""Foldwalk: one walk through all cells of a square floor."""
