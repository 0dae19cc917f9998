"""Papers that certify machines and answers, and their checks."""
