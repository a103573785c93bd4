"""Blockbooks: square tables of integers that are told by blocks, for all levels at once."""
