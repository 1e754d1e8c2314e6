"""Words and nets, on which all else is built."""
