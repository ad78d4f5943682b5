"""The facts of points 12 and 15, at drawn nets and contents."""

from lanelots.basics import farthest, is_at_most, moved, raised, turned
from lanelots.nets import Net
from tests.helpers import HUGE, Case, Draw, drawn_contents, drawn_nets

PLAIN = ("low", "high", "sort", "copy")


class Runs(Case):
    def test_no_lane_falls_behind_if_none_is_above_ahead(self):
        for net, draw in drawn_nets(60):
            for content in drawn_contents(draw, net.lanes):
                above = [number + draw.below(3) for number in content]
                self.assertTrue(is_at_most(net(content), net(above)))

    def test_one_number_added_to_all_lanes(self):
        for net, draw in drawn_nets(60):
            for content in drawn_contents(draw, net.lanes):
                for number in (-3, 1, HUGE):
                    self.assertEqual(net(raised(content, number)), raised(net(content), number))

    def test_never_farther_apart(self):
        for net, draw in drawn_nets(60):
            for content in drawn_contents(draw, net.lanes):
                for other in (draw.content(net.lanes, 4), draw.content(net.lanes, HUGE)):
                    self.assertLessEqual(farthest(net(content), net(other)), farthest(content, other))

    def test_plain_nets_go_along_with_what_keeps_the_order(self):
        for net, draw in drawn_nets(60, words=PLAIN, least_lanes=2):
            self.assertTrue(net.is_plain)
            for content in drawn_contents(draw, net.lanes):
                changed, last = {}, -50
                for number in sorted(set(content)):
                    last = last + 1 + draw.below(9)
                    changed[number] = last
                self.assertEqual(net([changed[number] for number in content]),
                                 [changed[number] for number in net(content)])


class Made(Case):
    def test_behind(self):
        for net, draw in drawn_nets(60):
            other = draw.net(net.lanes, 10)
            for content in drawn_contents(draw, net.lanes):
                self.assertEqual((net + other)(content), other(net(content)))
                self.assertEqual((net * 3)(content), net(net(net(content))))
            for place in range(len(net) + 1):
                ahead, behind = net.cut(place)
                self.assertEqual(ahead + behind, net)

    def test_beside(self):
        for net, draw in drawn_nets(60, most_lanes=6):
            other = draw.net(1 + draw.below(6), 10)
            for content in drawn_contents(draw, net.lanes):
                more = draw.content(other.lanes, 9)
                self.assertEqual(net.beside(other)(content + more), net(content) + other(more))

    def test_turned_about(self):
        for net, draw in drawn_nets(60):
            self.assertEqual(-(-net), net)
            for content in drawn_contents(draw, net.lanes):
                self.assertEqual((-net)(turned(content)), turned(net(content)))

    def test_renumbered(self):
        for net, draw in drawn_nets(60):
            order = draw.order(net.lanes)
            for content in drawn_contents(draw, net.lanes):
                self.assertEqual(net.renumbered(order)(moved(content, order)), moved(net(content), order))

    def test_wider(self):
        for net, draw in drawn_nets(60):
            content = draw.content(12, 9)
            self.assertEqual(net.wider(12)(content), net(content[:net.lanes]) + content[net.lanes:])

    def test_put_in_and_left_out(self):
        draw = Draw(5)
        net = draw.net(4, 12)
        for place in range(len(net) + 1):
            gate = draw.gate(4)
            ahead, behind = net.cut(place)
            self.assertEqual(net.with_gate(place, gate), ahead + Net(4, [gate]) + behind)
            self.assertEqual(net.with_gate(place, gate).without(place), net)
        for place in range(len(net) - 1):
            self.assertEqual(net.exchanged(place), net.without(place).with_gate(place + 1, net[place]))
