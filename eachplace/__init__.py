"""Eachplace: sayings over all places of rows."""
