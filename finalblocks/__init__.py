"""Blocks that are final, and who is to blame if two of them are against one another."""
