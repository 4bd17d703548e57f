"""The network: a bag of messages with numbers (point 7.2)."""

from ringloosed.errors import BadValue, Unknown
from ringloosed.messages import is_message


class Network:
    """The messages that were sent and not dropped; `sent` counts those that have been sent."""

    def __init__(self):
        self.sent = 0
        # The numbers come into the dict in ascending order, and stay in it so.
        self._messages = {}

    def send(self, sender, receiver, body):
        """Send a message; return its number."""
        message = (sender, receiver, body)
        if not is_message(message):
            raise BadValue("this is no message")
        self.sent += 1
        self._messages[self.sent] = message
        return self.sent

    def message(self, number):
        """Return the message with a number."""
        if number not in self._messages:
            raise Unknown("there is no message with this number")
        return self._messages[number]

    def drop(self, number):
        """Drop the message with a number."""
        if number not in self._messages:
            raise Unknown("there is no message with this number")
        del self._messages[number]

    def numbers(self):
        """Return the list of the numbers of the messages, ascending."""
        return list(self._messages)

    def __len__(self):
        return len(self._messages)

    def __iter__(self):
        return iter(self._messages)
