"""Leastfile: shortest files, and what any rule of packing costs."""
