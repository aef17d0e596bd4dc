"""cellplaces: where a cell of a table lies, for all sizes."""
