"""Folders that share their blocks, and what sizes tell of them."""
