"""Readagain: values written by formats, and read back."""
