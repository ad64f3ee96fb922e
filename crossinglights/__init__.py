"""Crossinglights: streets with lights, exact queues, and offsets that keep every promise or none."""
