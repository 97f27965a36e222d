"""Sensors that stick: where props can be, and which sensors can be at fault."""
