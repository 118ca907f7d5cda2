"""Deeds that may be done once enough others are, and that stay so until they are done."""
