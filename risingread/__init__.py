"""Numbers in several cells, read while they are written."""
