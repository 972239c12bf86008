"""Halfnoted: a small functional language in which annotations may be left out."""
