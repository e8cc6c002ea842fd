"""Fewreels: rows merged to one on a few reels."""
