"""The ends of a house in order."""
