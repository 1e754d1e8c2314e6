"""Leading past: pairs of ties, and whole places."""
