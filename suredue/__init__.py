"""Suredue: payments between people who need not trust each other."""
