"""Stuckwire: gates with a wire stuck at nought or one."""
