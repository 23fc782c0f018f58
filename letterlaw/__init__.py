"""Letterlaw: which words are the same by told pacts."""
