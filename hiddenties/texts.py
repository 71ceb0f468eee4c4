"""The texts of fractions, polynomials, rows and models, and the models that texts tell."""

from hiddenties.values import is_square

DIGITS = "0123456789"


def fraction_text(fraction):
    """The text of a fraction."""
    return f"{fraction[0]}/{fraction[1]}"


def polynomial_text(polynomial):
    """The text of a polynomial, the lowest power first."""
    if len(polynomial) == 0:
        return "-"
    return ",".join([fraction_text(fraction) for fraction in polynomial])


def row_text(row):
    """The text of a row of polynomials."""
    return " ".join([polynomial_text(item) for item in row])


def model_text(model):
    """The text of a model."""
    return "; ".join([row_text(row) for row in model])


def whole_told(text):
    """The whole number that a text tells, perhaps otherwise than `str` does; None."""
    digits = text[1:] if text.startswith("-") else text
    if digits == "" or not all([sign in DIGITS for sign in digits]):
        return None
    return int(text)


def polynomial_told(text):
    """What a text tells if it is that of a polynomial."""
    if text == "-":
        return ()
    return tuple([tuple([whole_told(part) for part in item.split("/")]) for item in text.split(",")])


def model_told(text):
    """The model of which this is the text; None."""
    told = tuple([tuple([polynomial_told(item) for item in row.split(" ")]) for row in text.split("; ")])
    if is_square(told) and model_text(told) == text:
        return told
    return None
