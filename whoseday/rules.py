"""The texts of rules: what a program holds when it copies an entry of a kind."""

from whoseday.words import number_in

KEEP = "keep"
LAST_MINUTE = 1439
CLOCKED = ("float", "zoned", "fixed")
RULES = {
    "float": ("day", "zoned", "fixed"),
    "zoned": ("own day", "home day", "own float", "home float", "as if", "moved", "fixed"),
    "fixed": ("day", "float", "zoned"),
}
# The kinds that rules make; other rules for clocks are called by the kind.
MADE = {
    "own day": "day", "home day": "day", "own float": "float", "home float": "float", "as if": "zoned",
    "moved": "zoned",
}


def is_rule(kind, rule):
    """Tells whether rule, any value, is the text of a rule for this kind."""
    if not isinstance(rule, str):
        return False
    if rule == KEEP:
        return True
    if kind == "day":
        return _is_day_rule(rule.split(" "))
    return rule in RULES[kind]


def kind_made(kind, rule):
    """The kind that a rule makes of a kind."""
    if rule == KEEP:
        return kind
    return rule.partition(" ")[0] if kind == "day" else MADE.get(rule, rule)


def _is_day_rule(words):
    if len(words) != 3 or words[0] not in CLOCKED:
        return False
    early = number_in(words[1])
    late = number_in(words[2])
    if early is None or late is None:
        return False
    return 0 <= early <= late <= LAST_MINUTE
