"""Answers about the stretches of a house."""
