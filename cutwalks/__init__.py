"""Cutwalks: where a backup store cuts data, and what changes do to the cuts."""
