"""Closedroads: can closing a road ever help all?"""
