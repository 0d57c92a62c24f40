"""Keptagain: whatever is left to do can be kept, and gone on with again."""
