"""Versionjudge: packages chosen, each answer with a certificate that a small judge checks."""
