"""Sound edits decided for all recordings."""
