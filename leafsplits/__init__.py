"""Leafsplits: the pages of a database index after runs of inserts."""
