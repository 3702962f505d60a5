"""Words as texts."""


def word_text(word):
    """The figures of its meetings, a + between; a point for the void one."""
    return "+".join([str(meeting) for meeting in word]) if word else "."


def words_text(words):
    """The words, in their order, commas between; - for none."""
    return ",".join([word_text(word) for word in words]) if words else "-"
