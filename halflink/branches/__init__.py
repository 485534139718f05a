"""Branches of a network, and networks in which they are replaced."""
