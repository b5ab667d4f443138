"""Ordinary and wrong inputs that several tests hand in."""

FAR = 10 ** 60 - 1
FARTHER = 7 ** 9000
GOOD_SIGNS = "abcdefghijklmnopqrstuvwxyz0123456789"
BAD_SIGNS = [chr(number) for number in range(32, 127) if chr(number) not in GOOD_SIGNS] + ["\n", "\r"]
BAD_THINGS = ["", "x" * 13, "1" * 13, "x" * 300, "X", "xX", "Xx", "x y", " x", "x ", "x\n", "\n", "x\ny", "-", "x_"]
