"""Broadcast trees whose links change while messages are in flight."""
