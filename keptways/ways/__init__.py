"""Numbers of ways, cut trees, and tight lots."""
