"""Whole numbers written by bases and digits that may lie below nought."""
