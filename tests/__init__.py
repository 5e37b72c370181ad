"""The tests of keptholes."""
