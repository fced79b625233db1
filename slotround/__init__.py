"""A table of slots for messages that come again and again."""
