"""lanelots.back: nets for maps, and their price (point 36)."""

from lanelots.back import is_net_of, net_of, price
from lanelots.errors import TooMany
from lanelots.families import Family
from lanelots.maps import Map
from lanelots.nets import Net
from lanelots.told import map_of
from tests import oracle
from tests.helpers import HUGE, Case, Draw, antichain
from tests.test_maps import drawn_charts
from tests.test_told import AGAIN, TO_MORE, TO_SIXTY

SWAP = Map([Family([((1, 0),)]), Family([((0, 0),)])])
LANES, GATES = {"what": "lanes", "limit": 5}, {"what": "gates", "limit": 400}
# A family of 57 lots of two lanes, and five that are left as they are: 5 + 57 * 7 + 4 * 4 is 420.
WIDE = Map([Family(antichain(57))] + Map.same(5).families()[1:])


def chart_of_price(wanted):
    """A map of two to five lanes of a price of about 400."""
    for many in range(45, 58):
        for lots in ([((0, 0),)], [((0, 0), (1, 0))], [((0, 0),), ((1, 0),)]):
            for lanes in range(2, 6):
                chart = Map([Family(antichain(many)), Family(lots)] + Map.same(lanes).families()[2:])
                if plain_price(chart) == wanted:
                    return chart
    return None


def plain_price(chart):
    return chart.lanes + sum(sum(3 for _ in lot) + 1 for family in chart.families() for lot in family.lots())


class Prices(Case):
    def test_examples(self):
        swap = Map([Family([((1, 0),)]), Family([((0, 0),)])])
        self.same([price(swap), is_net_of(net_of(swap), swap), is_net_of(Net(2, [("sort", 0, 1)]), swap)],
                  [10, True, False])
        self.same(is_net_of(Net(3, [("copy", 2, 0), ("copy", 0, 1), ("copy", 1, 2)]), swap), True)

    def test_prices(self):
        self.same([price(Map.same(lanes)) for lanes in (1, 5, 12)], [5, 25, 60])
        self.same(price(WIDE), 420)
        for families, _ in drawn_charts(60):
            self.same(price(Map(families)), plain_price(Map(families)))


class Nets(Case):
    def test_drawn_maps(self):
        for families, draw in drawn_charts(150, 4, 5):
            chart = Map(families)
            net = net_of(chart)
            self.assertLessEqual(net.lanes, 2 * chart.lanes + 2)
            self.same(map_of(net).families()[:chart.lanes], families)
            self.same([is_net_of(net, chart), is_net_of(net, chart.with_family(0, families[0] + 1))], [True, False])
            for most in (2, HUGE):
                content = draw.content(chart.lanes, most)
                for others in (draw.content(net.lanes - chart.lanes, 4), [HUGE] * (net.lanes - chart.lanes),
                               [-HUGE] * (net.lanes - chart.lanes)):
                    self.same(oracle.told(net.gates(), content + others)[:chart.lanes], chart(content))

    def test_sixty_lots(self):
        # Sixty lots of one lane are not to be had, but of two lanes they would be too dear.
        for many in (50, 55, 56):
            chart = Map([Family(antichain(many)), Family([((0, 3),)])])
            self.assertLessEqual(price(chart), 400)
            self.same(is_net_of(net_of(chart), chart), True)

    def test_five_lanes_and_more(self):
        five = Map([Family([((4 - lane, lane),), ((0, 1), (3, HUGE))]) for lane in range(5)])
        self.same([net_of(five).lanes <= 12, is_net_of(net_of(five), five)], [True, True])
        for lanes in range(1, 6):
            self.same(is_net_of(net_of(Map.same(lanes)), Map.same(lanes)), True)
        for lanes in range(6, 13):
            self.fails(TooMany, LANES, net_of, Map.same(lanes))
        # Of too many lanes and too many gates the lanes are told.
        wide = Map([Family(antichain(60))] + Map.same(6).families()[1:])
        self.fails(TooMany, LANES, net_of, wide)

    def test_price_of_four_hundred(self):
        for wanted in range(396, 401):
            chart = chart_of_price(wanted)
            self.same(price(chart), wanted)
            net = net_of(chart)
            self.assertLessEqual(len(net), 400)
            self.same(is_net_of(net, chart), True)
        for wanted in range(401, 406):
            chart = chart_of_price(wanted)
            self.same(price(chart), wanted)
            self.fails(TooMany, GATES, net_of, chart)
        self.fails(TooMany, GATES, net_of, WIDE)

    def test_long_numbers(self):
        chart = Map([Family([((0, HUGE), (1, -HUGE)), ((1, HUGE),)]), Family([((0, -HUGE),)])])
        self.same(is_net_of(net_of(chart), chart), True)


class Judged(Case):
    def test_fewer_lanes(self):
        for lanes in range(1, 13):
            self.same([is_net_of(Net(lanes), Map.same(own)) for own in range(1, 13)],
                      [own <= lanes for own in range(1, 13)])
        # Fewer lanes are told ahead of too many lots.
        eleven = Net(11, [("low", 0, 1)])
        self.same(is_net_of(eleven, Map.same(12)), False)

    def test_too_many_lots(self):
        for gates in (TO_MORE, AGAIN):
            for chart in (SWAP, Map.same(12), map_of(Net(12, TO_SIXTY))):
                self.fails(TooMany, {"what": "lots", "limit": 60}, is_net_of, Net(12, gates), chart)
        # The eleven lanes of these gates, without the last one: too many lots, but fewer lanes than the map has.
        fewer = Net(4, self.gates_to_many())
        self.fails(TooMany, {"what": "lots", "limit": 60}, is_net_of, fewer, Map.same(4))
        self.same(is_net_of(fewer, Map.same(5)), False)
        self.same(is_net_of(Net(12, TO_SIXTY), map_of(Net(12, TO_SIXTY))), True)

    def gates_to_many(self):
        """Gates by which lane 3 has 61 lots of the lanes 0 and 1."""
        found = []
        for number in range(61):
            found.extend([("add", 0, 1), ("add", 1, -1), ("copy", 2, 0), ("high", 2, 1),
                          ("low" if number else "copy", 3, 2)])
        return found

    def test_other_lanes_are_left_open(self):
        self.same(is_net_of(Net(3, [("low", 2, 0)]), Map.same(2)), True)
        self.same(is_net_of(Net(3, [("low", 0, 2)]), Map.same(2)), False)
        self.same(is_net_of(Net(3, [("low", 0, 2), ("copy", 0, 1)]), Map([Family([((1, 0),)])] * 2)), True)
        self.same(is_net_of(Net(1, [("add", 0, 3)]), Map([Family([((0, 3),)])])), True)
        self.same(is_net_of(Net(1, [("add", 0, 2)]), Map([Family([((0, 3),)])])), False)

    def test_many_gates_and_lanes(self):
        gates = [("copy", 2, 0), ("copy", 0, 1), ("copy", 1, 2)]
        for times in (1, 2, 3, 133):
            self.same(is_net_of(Net(12, gates * times), SWAP), times % 2 == 1)

    def test_one_gate_otherwise(self):
        for families, _ in drawn_charts(40, 2, 3):
            chart = Map(families)
            net = net_of(chart)
            draw = Draw(len(net))
            for _ in range(6):
                place = draw.below(len(net))
                other = net.without(place).with_gate(place, draw.gate(net.lanes))
                wanted = map_of(other).families()[:chart.lanes] == families
                self.same(is_net_of(other, chart), wanted)
