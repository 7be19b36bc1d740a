"""Tablestack: a small relational database server, from statements to pages that survive a crash."""
