"""Rowblade: deeds at the rows of a text, looked through ahead."""
