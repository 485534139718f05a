"""Views of a network, and the acts between them."""
