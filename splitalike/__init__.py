"""Two readers of one row agree where a message ends."""
