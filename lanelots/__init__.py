"""Lanelots: lanes that tell the first and the last of others, and the lots that they tell by."""
