"""Markscale: pictures of data, drawn and read back."""
