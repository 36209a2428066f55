"""Heaps of things wanted by hands, and prices at which all wants meet."""
