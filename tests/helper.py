"""What several test files need."""


def put(name, *parts, kept=False, add=0):
    return ("put", name, kept, add, parts)


def call(mode, branch=0):
    return ("call", mode, branch)
