"""Plainmoment: a debugger of small programs, each stop of which is a moment of one plain run."""
