"""Bytes as letters and signs, and back."""

SMALL_LETTERS = "abcdefghijklmnopqrstuvwxyz"
DIGITS = "0123456789"
SIGNS = {32: " ", 33: "!", 38: "&", 40: "(", 41: ")", 43: "+", 60: "<", 61: "=", 62: ">", 124: "|"}
# Stands for every byte that no token has: it's no token itself.
NO_TOKEN = "?"
LONGEST_NAME = 8


def letter_of(byte):
    if 97 <= byte <= 122:
        return SMALL_LETTERS[byte - 97]
    if 48 <= byte <= 57:
        return DIGITS[byte - 48]
    return SIGNS.get(byte, NO_TOKEN)


def as_letters(row):
    return "".join([letter_of(byte) for byte in row])


def as_bytes(letters):
    return [ord(letter) for letter in letters]


def is_name(letters):
    # Of what as_letters gives, the small letters alone are letters.
    return letters.isalpha() and len(letters) <= LONGEST_NAME
