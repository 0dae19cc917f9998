"""Distances of words, and where words stand with misprints."""
