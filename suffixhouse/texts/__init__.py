"""Texts and their houses."""
