"""Widelines: lines of straight pieces made wide, with exact coordinates."""
