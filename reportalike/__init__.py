"""Reportalike: what is sure of sheets that are made by methods that nobody knows."""
