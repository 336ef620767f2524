"""Scenes in time: conditions on a course of turns, wishes, and scenes that begin and end by them."""
