"""Runs of a network, runners, and logs."""
