"""Soundborder: a language whose typing is a set of permissions."""
