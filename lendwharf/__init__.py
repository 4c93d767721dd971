"""Lendwharf: a stock shared by parted houses."""
