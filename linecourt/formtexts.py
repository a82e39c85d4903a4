"""Forms written as texts, words parted by one blank."""


def show_share(kind, times):
    """A part of a sum, written: how often it counts where that is above 1, and its kind."""
    return f"{times} {kind}" if times > 1 else kind


def show_sum(total):
    """A sum, written: its parts, and its number where that isn't 0 or there is no part."""
    parts, number = total
    told = [show_share(kind, times) for kind, times in parts]
    if number > 0 or not told:
        told.append(str(number))
    return " + ".join(told)


def show_simple(form):
    """A form without forms in it, written."""
    word = form[0]
    if word == "false":
        return "absurd"
    if word == "is":
        return f"{form[1]} is a {form[2]}"
    if word == "same":
        return f"{form[1]} is {form[2]}"
    if word == "does":
        return f"{form[2]} {form[1]} {form[3]}"
    return f"{show_sum(form[1])} >= {show_sum(form[2])}"


def show_form(form):
    """A form, written."""
    word = form[0]
    if word == "not":
        return f"not ( {show_form(form[1])} )"
    if word in ("and", "or"):
        return f"( {show_form(form[1])} ) {word} ( {show_form(form[2])} )"
    if word == "if":
        return f"if ( {show_form(form[1])} ) then ( {show_form(form[2])} )"
    if word in ("every", "some"):
        return f"{word} {form[1]} ( {show_form(form[2])} )"
    return show_simple(form)
