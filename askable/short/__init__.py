"""Shorter queries that still fit."""
