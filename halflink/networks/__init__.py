"""Networks of machines, and their configurations."""
