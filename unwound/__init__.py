"""Unwound: programs that call themselves, made into loops with few cells and no stack."""
