"""What a name is: one to twelve letters from a to z."""

LONGEST = 12


def is_letter(sign):
    # Not isalpha and islower: these let by letters beyond a to z.
    return "a" <= sign <= "z"


def is_name(text):
    return 1 <= len(text) <= LONGEST and all([is_letter(sign) for sign in text])
