"""Stagebelt: a processor that holds several instructions at once, and which designs of it are right."""
