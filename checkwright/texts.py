"""Numbers and systems written as texts, and read from them."""

from checkwright.errors import InvalidNumber, InvalidText
from checkwright.plain import is_from, size_of, turned_round
from checkwright.systems import check_code, check_system, is_system

TOTAL = "total: "
DIGITS = "0123456789"


def is_alphabet(number, value):
    """Whether a value is an alphabet of a size."""
    if not is_from(number, 1):
        raise InvalidNumber(number)
    return is_any_alphabet(value) and len(value) == number


def text_of_code(system, alphabet, code):
    """The text of a number."""
    check_system(system)
    check_alphabet(system, alphabet)
    check_code(system, code)
    return "".join([alphabet[sign] for sign in code])


def code_of_text(system, alphabet, text):
    """The number of the system that has a text."""
    check_system(system)
    check_alphabet(system, alphabet)
    if not is_word(alphabet, text) or len(text) != len(system[1]):
        raise InvalidText(text)
    return [alphabet.index(character) for character in text]


def text_of_system(system, alphabet):
    """The text of a system."""
    check_system(system)
    check_alphabet(system, alphabet)
    orders, tables, total = system
    lines = [",".join([str(order) for order in orders])]
    for table in tables:
        lines.append("".join([alphabet[sign] for sign in turned_round(table)]))
    lines.append(TOTAL + str(total))
    return "".join([line + "\n" for line in lines])


def system_of_text(alphabet, text):
    """The system that has a text."""
    if not is_any_alphabet(alphabet):
        raise InvalidText(alphabet)
    if not isinstance(text, str):
        raise InvalidText(text)
    system = system_told(alphabet, text.split("\n"))
    if system is None:
        raise InvalidText(text)
    return system


def check_alphabet(system, alphabet):
    """Raise InvalidText unless this is an alphabet of the size of the system."""
    if not is_any_alphabet(alphabet) or len(alphabet) != size_of(system[0]):
        raise InvalidText(alphabet)


def is_any_alphabet(value):
    """Whether a value is an alphabet of any size."""
    if not isinstance(value, str) or value == "":
        return False
    if len(set(value)) != len(value):
        return False
    return all(["!" <= character <= "~" and character not in ":," for character in value])


def is_word(alphabet, value):
    """Whether a value is a string of characters of an alphabet."""
    return isinstance(value, str) and all([character in alphabet for character in value])


def system_told(alphabet, lines):
    """The system of the alphabet's size that lines tell, the last one of which has to be empty; None if none."""
    if len(lines) < 3 or lines[-1] != "" or not lines[-2].startswith(TOTAL):
        return None
    many = len(alphabet)
    orders = tuple([number_told(word, many) for word in lines[0].split(",")])
    tables = [table_told(alphabet, line) for line in lines[1:-2]]
    system = (orders, tables, number_told(lines[-2][len(TOTAL):], many))
    return system if is_system(system) else None


def number_told(word, most):
    """The whole number that decimal digits tell, None if they tell none or a longer one than the greatest."""
    # Python refuses to read a number of thousands of digits, so the length comes first.
    if word == "" or len(word) > len(str(most)) or not is_word(DIGITS, word):
        return None
    if word[0] == "0" and word != "0":
        return None
    return int(word)


def table_told(alphabet, line):
    """The table of the signs whose characters a line bears in order of their members, None if there is none."""
    if not is_word(alphabet, line) or len(line) != len(alphabet) or len(set(line)) != len(line):
        return None
    return turned_round([alphabet.index(character) for character in line])
