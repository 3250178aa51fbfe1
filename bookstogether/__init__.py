"""Bookstogether: a store whose parts are rule books, judged together."""
