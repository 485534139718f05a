"""Desks: networks with a live configuration, which are edited and moved."""
