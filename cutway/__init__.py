"""Cutway: records of hands that write letters, and the cuts through them."""
