"""Machines that exchange letters over a tree of two-way links."""
