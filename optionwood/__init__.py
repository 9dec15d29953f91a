"""Optionwood: wares with options as a tree."""
