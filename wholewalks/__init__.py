"""Wholewalks: what can be done by walking rows whole."""
