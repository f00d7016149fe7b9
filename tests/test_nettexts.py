import random
import re

from swapstops import errors
from swapstops.errors import BadText, SwapError
from swapstops.nettexts import net_text, read_net
from tests.calls import CallCase, outcome
from tests.drawn import all_nets, arrows_of, told_nets
from tests.samples import any_values, picture

STOP = "(?:1[01]|[0-9])"
SHAPE = re.compile(f"(1[0-2]|[1-9]):((?: {STOP}>{STOP})*)")
SIGNS = list("0123456789 :>+-\n\tax,.<") + ["  ", "00", " 0>1", "0>1", ": "]


def model_of_text(text):
    """The net of which a text is the text, None if there is none, by other means than the program's."""
    found = SHAPE.fullmatch(text)
    if found is None:
        return None
    n = int(found[1])
    arrows = tuple(tuple(map(int, word.split(">"))) for word in found[2].split())
    right = [arrow for arrow in arrows_of(n) if arrow in arrows]
    return (n, arrows) if list(arrows) == right else None


def changed(draw, text):
    """Texts that are made of a text by some slip."""
    spots = range(len(text) + 1) if len(text) < 40 else draw.sample(range(len(text) + 1), 12)
    for spot in spots:
        ahead, behind = text[:spot], text[spot:]
        yield ahead + behind[1:]
        yield ahead + behind[1:2] + behind[:1] + behind[2:]
        yield ahead + behind[:1] + behind
        for sign in SIGNS:
            yield ahead + sign + behind
            yield ahead + sign + behind[1:]
    words = text.split(" ")
    for spot in range(1, len(words))[:12]:
        yield " ".join(words[:spot] + words[spot + 1:])
        yield " ".join(words[:spot] + words[spot:spot + 1] + words[spot:])
        yield " ".join(words[:spot] + words[spot + 1:spot + 2] + words[spot:spot + 1] + words[spot + 2:])


class ThereAndBackTest(CallCase):

    def test_nets_of_all_sizes(self):
        for net in told_nets():
            text = net_text(net)
            self.assertIs(type(text), str)
            self.assert_tells(text, net_text, net=net)
            self.assert_tells(net, read_net, value=text)
            self.assertEqual(model_of_text(text), net)

    def test_all_nets_of_up_to_three_stops(self):
        texts = {}
        for net in [net for n in (1, 2, 3) for net in all_nets(n)]:
            text = net_text(net)
            self.assert_tells(net, read_net, value=text)
            self.assertNotIn(text, texts)
            texts[text] = net

    def test_words_of_some(self):
        self.assert_tells("12: 0>11 9>10 10>9 11>0", net_text, net=(12, ((0, 11), (9, 10), (10, 9), (11, 0))))
        self.assert_tells("12:", net_text, net=(12, ()))
        self.assert_tells("2: 0>1 1>0", net_text, net=(2, ((0, 1), (1, 0))))
        self.assert_tells((11, ((2, 10), (10, 2))), read_net, value="11: 2>10 10>2")


class SlipsTest(CallCase):

    def assert_as_model(self, text):
        net = model_of_text(text)
        if net is None:
            self.assertIs(type(outcome(read_net, text)), BadText, text)
        else:
            self.assertEqual(picture(read_net(text)), picture(net), text)

    def test_slips_at_all_places(self):
        draw = random.Random("slips")
        for net in told_nets():
            for text in changed(draw, net_text(net)):
                self.assert_as_model(text)

    def test_short_texts(self):
        draw = random.Random("short")
        for _ in range(4000):
            self.assert_as_model("".join(draw.choices("0123:> ", k=draw.randint(0, 9))))
            self.assert_as_model("3:" + "".join(draw.choices([" ", "0", "1", "2", ">", " 0>1", " 1>2"], k=3)))


class BadTextTest(CallCase):

    def assert_bad(self, value):
        self.assert_error(BadText, read_net, value=value)

    def test_is_a_swap_error(self):
        with self.assertRaises(SwapError):
            read_net("")

    def test_wrong_texts(self):
        for text in (
            "", " ", "\n", ":", ": ", ">", "3", "3 ", "3;", "::", "3::", "3: ", "3:  ", "3:0>1", "3 : 0>1", "3: :",
            " 3: 0>1", "3: 0>1 ", "3: 0>1\n", "\n3: 0>1", "3:\n0>1", "3:\t0>1", "3:  0>1", "3: 0>1  1>2", "3:\n",
            "3: 0 >1", "3: 0> 1", "3: 0>", "3: >1", "3: >", "3: 0", "3: 01", "3: 0>1>2", "3: 0>>1", "3: 0<1",
            "3: 0-1", "3: 0,1", "3: 0>1,1>2", "3: 0>1;1>2", "3: 0>11>2", "3: (0, 1)", "(3, ((0, 1),))", "3: a>b",
            "03: 0>1", "3: 00>1", "3: 0>01", "03:", "00:", "+3: 0>1", "3: +0>1", "3: 0>+1", "-3: 0>1", "3: -0>1",
            "3: 0>-1", "3: 0>1.0", "3.0: 0>1", "1_0:", "1_2: 0>1", "0x3:", "3: 0>0x1", "3e0:", "three: 0>1", "None:",
            "3: 0>1 None", "3: 0>1 0", "3: 0>1 :", "3: 0>1 3:", "3:3: 0>1", "3: 0>1\x0b1>2", "3: 0>1\xa01>2",
            "\u0663: 0>1", "3: 0>\u0661", "\uff13:", "3: 0\u22651", "3\xb2:",
        ):
            self.assert_bad(text)

    def test_numbers_of_stops(self):
        for n in range(1, 13):
            self.assert_tells((n, ()), read_net, value=f"{n}:")
        for head in ["0", "13", "14", "20", "100", "112", "120", "-1", "-12", "012", "1 2", "12 "]:
            self.assert_bad(f"{head}:")
            self.assert_bad(f"{head}: 0>1")

    def test_no_arrows(self):
        for n in range(1, 13):
            for stop in range(n):
                self.assert_bad(f"{n}: {stop}>{stop}")
                for beyond in (n, n + 1, 10 * n + 10, -1):
                    self.assert_bad(f"{n}: {stop}>{beyond}")
                    self.assert_bad(f"{n}: {beyond}>{stop}")

    def test_arrows_out_of_order(self):
        for text in (
            "3: 1>2 0>1", "3: 0>2 0>1", "3: 0>1 0>1", "3: 0>1 1>2 0>1", "3: 0>1 1>2 1>2", "3: 2>0 1>0 0>1",
            "12: 10>0 9>0", "12: 0>10 0>9", "12: 0>10 0>2", "12: 10>0 2>0", "12: 1>0 10>0 2>0",
        ):
            self.assert_bad(text)
        self.assert_tells((12, ((0, 2), (0, 10), (2, 0), (10, 0))), read_net, value="12: 0>2 0>10 2>0 10>0")

    def test_figures_by_thousands(self):
        for many in (100, 4299, 4300, 4301, 10000, 19990):
            for figure in "019":
                self.assert_bad(figure * many)
                self.assert_bad(figure * many + ":")
                self.assert_bad("3: " + figure * many + ">1")
                self.assert_bad("3: 0>" + figure * many)
            self.assert_bad("0" * many + "3:")
            self.assert_bad("3: 0>" + "0" * many + "1")
        self.assert_bad("3:" + " 0>1" * 4999)
        self.assert_bad("3:" + " " * 19990)
        self.assert_bad(">" * 20000)
        self.assert_bad(":" * 20000)

    def test_no_strings(self):
        text = "3: 0>1"
        for value in any_values():
            if not isinstance(value, str) or value != text:
                self.assert_bad(value)
        for value in ((text,), [text], {text: text}, {"text": text}, (3, ((0, 1),)), b"3: 0>1", (text, 0), [[text]]):
            self.assert_bad(value)
        for value in (errors.BadNet(text), errors.Barred(text), errors.NoVersion(text), errors.BadText(text)):
            self.assert_bad(value)
            self.assert_bad((value,))

    def test_a_text_among_all_values_is_read(self):
        self.assertIn("3: 0>1", any_values())
        self.assert_tells((3, ((0, 1),)), read_net, value="3: 0>1")
