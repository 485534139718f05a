"""What is asked of one-way networks."""
