"""Texts of values, tables, and a shell of commands."""
