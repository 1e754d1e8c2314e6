"""Tests of keptways."""
