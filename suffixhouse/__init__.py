"""Suffixhouse: an index of all stretches of many texts."""
