"""Presshouse: bytes pressed whole in small, each step the least."""
