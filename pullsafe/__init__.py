"""Pullsafe: devices on a bus that are plugged and pulled."""
