"""Whoseday: on which day an entry shows when programs copy it for ever."""
