"""Graphpack: webs of parts, packed into bytes."""
