"""Whencewise: tables whose rows bear notes, and what an answer hangs on."""
