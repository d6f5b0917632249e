"""What a name is: one to twelve letters from a to z."""

LONGEST = 12


def is_letter(sign):
    # Not isalpha and islower: these let by letters beyond a to z.
    return "a" <= sign <= "z"


# Letters alone, in any number but none: so names stand in the text of a works.
def is_word(text):
    return len(text) > 0 and all([is_letter(sign) for sign in text])


def is_name(text):
    return is_word(text) and len(text) <= LONGEST
