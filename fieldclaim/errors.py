"""The refusals of the program."""


# The one base of them all, so that a caller can take every refusal by one name.
class FieldError(ValueError):
    pass


# For a text that is no field's writing.
class NoText(FieldError):
    pass


# For a claim that the hand whose turn it is does not have.
class NoClaim(FieldError):
    pass
