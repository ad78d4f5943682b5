"""The same as calls, for the functions of stage 9 of the interface (those of benches are called in test_bench)."""

from lanelots import claims, commands, readers, texts
from lanelots.families import Family
from lanelots.spans import Spans
from tests.pace_maps import CHART

HELD = Spans(2, [(0, 1, -5), (1, 0, 4)])
SADDLE = (3, ((1, 2),), {((0, 2),): 0, ((1, 2),): 1})
TELLS = ("tells", Family([((0, 2),), ((1, 2),)]), [5, 1], 3)

TEXTS = (
    (texts.written, {"thing": [4, None]}, "row 4 -\n"),
    (readers.read, {"text": "row 4 -\n"}, [4, None]),
)
CLAIMS = (
    (claims.is_claim, {"value": ("fits", HELD)}, True),
    (claims.is_true, {"claim": ("paced", CHART, 0, (1, 1))}, True),
    (claims.contrary, {"claim": TELLS}, ("misses", *TELLS[1:])),
    (claims.paper_of, {"claim": TELLS}, SADDLE),
    (claims.is_paper, {"claim": TELLS, "value": SADDLE}, True),
    (claims.things_at, {"word": "within"}, (0, 1, 2)),
)
COMMANDS = (
    (commands.words_of, {"command": "drop net"}, ["drop", "net"]),
    (commands.is_change, {"command": "look note"}, False),
)
FUNCTIONS = TEXTS + CLAIMS + COMMANDS
