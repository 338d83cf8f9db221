"""Writeorders: pages written in any order, and nothing broken."""
