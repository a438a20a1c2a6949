"""Laytwice: decides what a tool that lays out programs does when it runs again."""
