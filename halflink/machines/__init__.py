"""Single machines: their states and transitions."""
