"""Cornerdrifts: two queues, counted by whole numbers, and whether they come home."""
