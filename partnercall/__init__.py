"""Partnercall: couples that are called. The functions stand in the modules of this package."""
