"""Forerun: dealings run ahead of their turn."""
