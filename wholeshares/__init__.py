"""Wholeshares: dividing whole items in proportion to claims."""
