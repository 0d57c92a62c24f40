"""Images: how a machine stands, as a text."""

from keptagain.errors import BadImage
from keptagain.image_building import state_of
from keptagain.image_lines import image_lines
from keptagain.image_reading import ImageReader
from keptagain.lines import BadLine
from keptagain.machine import machine_of, need_machine


def image(machine):
    """The text that tells how machine stands."""
    need_machine(machine)
    return "\n".join(image_lines(machine.state))


def read_image(text):
    """The Machine whose image this is."""
    if not isinstance(text, str):
        raise BadImage(0)
    try:
        return machine_of(state_of(ImageReader(text)))
    except BadLine as wrong:
        raise BadImage(wrong.number) from None
