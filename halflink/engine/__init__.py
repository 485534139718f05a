"""Runs within bounds, and schedulers that choose their moves."""
