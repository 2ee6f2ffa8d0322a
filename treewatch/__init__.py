"""Treewatch: trees of files, and what was changed in them."""
