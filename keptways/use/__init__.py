"""A net that is changed by calls."""
