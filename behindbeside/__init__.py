"""Behindbeside: orders of tasks put together by behind and beside."""
