"""Echobound: nets of whole numbers that round and go over, and what they can never do."""
