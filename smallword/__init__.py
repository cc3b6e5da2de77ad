"""Smallword: wishes, worlds, and papers that a small checker reads."""
