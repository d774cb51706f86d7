"""Edgemoss: shapes of cells, eaten and grown by told pieces."""
