"""Surehall: conclusions sealed step by step."""
