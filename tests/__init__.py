"""The tests of dipkin."""
