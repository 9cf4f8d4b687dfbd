"""Gongpath: walks without end, and the greatest number heard again and again."""
