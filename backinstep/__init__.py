"""Backinstep: copies of a device that get out of step and back."""
