"""The words that the outside saw."""


def shown_words(live, m):
    """The words of the events of machine m within the sure line, or NoMachine."""
    run = live.run()
    run.need_machine(m)
    return run.words_behind(m, live.sure()[m])
