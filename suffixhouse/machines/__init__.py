"""Machines that take the ends of a house."""
