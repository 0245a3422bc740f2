"""Fewturned: rows with the least weight of turned arrows."""
