"""Narrowingbits: pictures told by bits."""
