"""Nets that are grown from one place."""
