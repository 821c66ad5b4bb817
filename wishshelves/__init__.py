"""Wishshelves: saved searches that use one another."""
