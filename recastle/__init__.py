"""Recastle: rules that turn programs into other programs."""
