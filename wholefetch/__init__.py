"""Wholefetch: files fetched in pieces while they change."""
