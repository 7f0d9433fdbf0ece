"""Fifteenforms: forms that give all numbers, told by a few of them."""
