"""New ties, behind which all numbers are great enough."""
