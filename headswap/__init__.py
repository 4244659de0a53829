"""Headswap: endless rows of noughts and ones whose heads are exchanged."""
