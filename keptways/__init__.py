"""Keptways: leading ties past a place with all numbers of ways kept."""
