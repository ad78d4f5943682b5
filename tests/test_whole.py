"""Over the whole program: what is asked in several ways, and of things that are changed, has one answer (point 4)."""

import math

from lanelots import runs
from lanelots.back import is_net_of, net_of
from lanelots.basics import is_at_most, moved, raised, spread, turned
from lanelots.bench import Bench
from lanelots.claims import is_paper, is_true, paper_of
from lanelots.even import (
    even_of, greatest_below, is_even, lap_of, least_above, moved_by, uneven_of,
)
from lanelots.families import Family, lies_below
from lanelots.gaps import behind, gap, keeps, leads
from lanelots.heads import at_ceiling, feet, heads, heads_back
from lanelots.maps import Map, fed
from lanelots.pace import answer_paper, by_pace, least_behind, most_behind, paces, plan_paper
from lanelots.plainrounds import (
    alike_from, comes, comes_of, content_behind, fallen, laps, map_behind, risen, settled, settles, stands,
)
from lanelots.plans import best_answer, best_plan, is_best_plan, rings
from lanelots.readers import read
from lanelots.sources import how_many, source
from lanelots.spans import Spans, fitting, within
from lanelots.tables import flags_at, led, map_by, table_of
from lanelots.texts import written
from lanelots.told import are_alike, is_steps, lanes_hung, map_of, steps_of
from lanelots.walks import far_from, is_walk, walk_of, walked_to
from tests.helpers import HUGE, Case, Draw, drawn_contents, drawn_nets
from tests.pace_maps import drawn_even_maps, drawn_maps, raised as raised_map
from tests.test_tables import drawn_plain_maps


def moved_row(row, order):
    found = list(row)
    for lane, number in zip(order, row):
        found[lane] = number
    return found


def moved_spans(held, order):
    return Spans(held.lanes, [(order[i], order[j], number) for i, j, number in held.differences()])


def turned_row(row):
    return [None if number is None else -number for number in row]


def raised_row(row, number):
    return [None if own is None else own + number for own in row]


def row_key(row):
    return [(number is not None, number) for number in row]


def small_maps(times, most=(1, 3)):
    """Maps of one to three lanes, all of whose questions are soon answered."""
    for chart, draw in drawn_maps(times, 3, 2, most, (0,)):
        yield chart, draw, draw.order(chart.lanes)


class Forms(Case):
    def test_a_net_in_all_its_forms(self):
        for net, draw in drawn_nets(60, 4, 8):
            chart = map_of(net)
            forms = [runs.first_shuffle(net), runs.by_layers(net), read(written(net)), net + net * 0, -(-net)]
            for form in forms:
                self.same([are_alike(net, form), map_of(form)], [True, chart])
            charts = [read(written(chart)), map_of(read(written(net))), -(-chart), Map(chart.families()), chart * 1]
            self.same(charts, [chart] * 5)
            wide = net_of(chart)
            self.same([is_net_of(wide, chart), is_net_of(net, chart), is_net_of(read(written(wide)), chart)],
                      [True] * 3)
            for content in drawn_contents(draw, net.lanes):
                wanted = net(content)
                self.same([form(content) for form in forms] + [own(content) for own in charts], [wanted] * 10)
                others = draw.content(wide.lanes - net.lanes, 99)
                self.same(wide(content + others)[:net.lanes], wanted)
                self.same([runs.cone_net(net, lane)(content)[lane] for lane in range(net.lanes)], wanted)
                self.same([content[first] + total for first, total in runs.origins(net, content)], wanted)
                self.same([(~family)(content) for family in chart.families()], wanted)

    def test_what_is_claimed_of_its_forms(self):
        for net, draw in drawn_nets(40, 4, 6, least_lanes=2):
            bench, place = Bench(), draw.below(len(net) + 1)
            bench["net"] = net
            bench["first"] = runs.first_shuffle(net)
            bench["more"] = net.with_gate(place, ("add", 0, 0))
            self.same([bench.note("n", "shuffled", ["net", "first"]), bench.note("m", "unlike", ["net", "more"]),
                       bench.do("unlike net more")], ["shuffled", "alike", "-"])
            bench.do_all("make x map net", "make y map more", "lane z x 0", "make w other z")
            self.same([bench["x"], bench["y"], bench["z"], bench["w"]],
                      [map_of(net)] * 2 + [map_of(net)[0], ~map_of(net)[0]])
            for lane in range(net.lanes):
                self.same([other for other in range(net.lanes) if is_true(("hangs", net, lane, other))],
                          lanes_hung(net, lane))
            content = draw.content(net.lanes, 5)
            word = ",".join([str(number) for number in content])
            self.same([bench.do(f"answer net {word}"), bench.do(f"answer x {word}")],
                      [",".join([str(number) for number in net(content)])] * 2)
            self.same(is_steps(net, paper_of(("alike", net, bench["more"]))[0]), True)

    def test_written_forms_of_all_that_is_told(self):
        for chart, draw, _ in small_maps(40):
            held = Spans(chart.lanes, draw.differences(chart.lanes, 3, 5, 0))
            for thing in (chart, -chart, chart[0], ~chart[0], -chart[0], held, held.closed(), behind(held, chart),
                          chart([0] * chart.lanes), walk_of(chart)[1], fitting(held), net_of(chart)):
                self.same(read(written(thing)), thing)


class Rounds(Case):
    def test_of_nets_and_maps(self):
        for net, draw in drawn_nets(40, 3, 5):
            chart = map_of(net)
            for content in drawn_contents(draw, net.lanes):
                told = runs.passed(net, content, 6)
                for many in range(7):
                    self.same([(net * many)(content), (chart * many)(content), map_of(net * many)(content),
                               runs.rounds(net, content, many)], [told[many]] * 4)

    def test_of_plain_maps(self):
        for chart, draw in drawn_plain_maps(50, 4):
            first, period = comes(chart)
            for content in drawn_contents(draw, chart.lanes):
                self.same(lap_of(chart, content), (*comes_of(chart, content), 0))
                self.same(stands(chart, content), moved_by(chart, content) == 0)
                for many in (0, 1, 2, first, first + period, 10 ** 20):
                    told = content_behind(chart, content, many)
                    self.same(map_behind(chart, many)(content), told)
                    for number in content:
                        flags = flags_at(content, number)
                        self.same(led(map_behind(chart, many), flags), flags_at(told, number))
                up, is_near = chart(content), spread(content) <= 1000
                if is_near and is_at_most(content, up):
                    self.same(risen(chart, content), least_above(chart, 0, content))
                if is_near and is_at_most(up, content):
                    self.same(fallen(chart, content), greatest_below(chart, 0, content))
            self.same([paces(chart), map_by(table_of(chart)), is_true(("settles", chart))],
                      [[(0, 1)] * chart.lanes, chart, settles(chart)])
            self.same([is_true(("even", chart)), is_even(chart, ((0, 1), even_of(chart)[1]))], [True, True])
            if settles(chart):
                self.same([settled(chart), alike_from(chart, settled(chart)) <= max(first, 1)], [chart * first, True])

    def test_of_heads_and_sources(self):
        for chart, draw, _ in small_maps(50):
            row = draw.row(chart.lanes, 4)
            for many in range(4):
                together = chart * many
                self.same(heads_back(chart, row, many), heads(together, row))
                content = draw.content(chart.lanes, 4)
                told = together(content)
                self.same([is_true(("reached", together, told, told)), together(source(together, told, told))],
                          [True, told])

    def test_of_spans(self):
        for chart, draw, _ in small_maps(50):
            held = Spans(chart.lanes, draw.differences(chart.lanes, 3, 4, 0))
            once, twice = behind(held, chart), behind(behind(held, chart), chart)
            # At once they are as strong as one behind the other, or stronger.
            self.same([within(behind(held, chart * 2), twice), leads(held, chart, once), leads(held, chart * 2, twice)],
                      [True] * 3)
            self.same([keeps(held, chart), is_true(("kept", held, chart))], [within(once, held)] * 2)
            if keeps(held, chart):
                self.same([keeps(held, chart * many) for many in (0, 2, 3)], [True] * 3)
            content = draw.content(chart.lanes, 4)
            for many in range(4):
                self.same(leads(Spans.ball(content, 3), chart * many, Spans.ball((chart * many)(content), 3)), True)

    def test_of_paces_and_walks(self):
        for chart, draw in drawn_maps(50, 4, 3, (1, 3, 20), (0, 10 ** 29)):
            walk, told = walk_of(chart), paces(chart)
            self.same([walk[0], sorted(lane for _, lanes in by_pace(chart) for lane in lanes)],
                      [told, list(range(chart.lanes))])
            common = math.lcm(*[q for _, q in told])
            for content in drawn_contents(draw, chart.lanes):
                far, found = far_from(chart, walk, content), list(content)
                for many in range(8):
                    goal = walked_to(chart, walk, many)
                    self.assertTrue(all(far[0] <= common * own - to <= far[1] for own, to in zip(found, goal)))
                    for lane in range(chart.lanes):
                        high = most_behind(chart, lane, told[lane], plan_paper(chart, lane, told[lane]), content, many)
                        low = least_behind(chart, lane, told[lane], answer_paper(chart, lane, told[lane]), content,
                                           many)
                        self.assertTrue(low <= found[lane] <= high)
                    found = chart(found)
            for lane, rate in enumerate(told):
                self.same([is_true(("paced", chart, lane, rate)),
                           is_true(("faster", chart, lane, (rate[0] - 1, rate[1])))],
                          [True, True])
                self.same(is_paper(("paced", chart, lane, rate), plan_paper(chart, lane, rate)), True)

    def test_of_laps_and_bounds(self):
        for chart, draw in drawn_even_maps(40, 4, (0,)):
            content = draw.content(chart.lanes, 9)
            ahead, many, total = lap_of(chart, content)
            there = (chart * min(ahead, 20))(content) if ahead <= 20 else None
            if there is not None and many <= 20:
                self.same((chart * many)(there), raised(there, total))
            (p, q), even = even_of(chart)
            self.same([total * q, is_walk(chart, ([(p, q)] * chart.lanes, even))], [many * p, True])
            self.same(uneven_of(chart), None)
            # Kept below by what is just at most the pace, and above by what is just at least.
            self.same([least_above(chart, p // q - 1, content), greatest_below(chart, p // q + 1, content)],
                      [None, None])

    def test_of_gaps_and_maps_of_families(self):
        for chart, draw, _ in small_maps(60):
            lanes = chart.lanes
            one, other = draw.family(2, lanes, 2), draw.family(2, lanes, 2)
            free = Spans(lanes)
            most = gap(free, one, other)
            self.same([lies_below(one, other), is_true(("below", one, other)),
                       is_true(("within", free, one, other, 0))],
                      [most is not None and most <= 0] * 3)
            if most is not None:
                self.same([lies_below(one, other + most), lies_below(one, other + (most - 1))], [True, False])
            content = draw.content(lanes, 9)
            self.same([fed(one, chart)(content), fed(one, chart * 2)(content)],
                      [one(chart(content)), one(chart(chart(content)))])
            self.same(is_true(("tells", fed(one, chart), content, one(chart(content)))), True)


class Changed(Case):
    def test_renumbered(self):
        for chart, draw, order in small_maps(60):
            other, lanes = chart.renumbered(order), range(chart.lanes)
            content, row = draw.content(chart.lanes, 5), draw.row(chart.lanes, 5)
            goal = moved(content, order)
            self.same([other(goal), lap(other, goal), moved_by(other, goal)],
                      [moved(chart(content), order), lap(chart, content), moved_by(chart, content)])
            self.same(at_ceiling(other, moved_row(row, order)), moved_row(at_ceiling(chart, row), order))
            for tell in (heads, feet):
                self.same(tell(other, moved_row(row, order)),
                          sorted([moved_row(head, order) for head in tell(chart, row)], key=row_key))
            self.same(how_many(other, moved_row(row, order), goal), how_many(chart, row, content))
            held = Spans(chart.lanes, draw.differences(chart.lanes, 2, 4, 0))
            self.same(behind(moved_spans(held, order), other), moved_spans(behind(held, chart), order))
            self.same([keeps(moved_spans(held, order), other), [paces(other)[order[lane]] for lane in lanes]],
                      [keeps(held, chart), paces(chart)])
            told, walk = walk_of(chart)
            self.same(is_walk(other, (moved_row(told, order), moved(walk, order))), True)
            plan = best_plan(chart)
            self.same(is_best_plan(other, moved_row([tuple(sorted((order[j], a) for j, a in lot)) for lot in plan],
                                                    order)),
                      True)
            for number in (-2, 0, 3):
                for tell in (least_above, greatest_below):
                    found = tell(chart, number, content)
                    self.same(tell(other, number, goal), found and moved(found, order))

    def test_turned_about(self):
        for chart, draw, _ in small_maps(60):
            other, content, row = -chart, draw.content(chart.lanes, 5), draw.row(chart.lanes, 5)
            goal = turned(content)
            found, more = lap(chart, content), moved_by(chart, content)
            self.same([other(goal), lap(other, goal), moved_by(other, goal)],
                      [turned(chart(content)), found and (*found[:2], -found[2]), None if more is None else -more])
            self.same(feet(other, turned_row(row)), sorted([turned_row(head) for head in heads(chart, row)],
                                                           key=row_key))
            self.same(how_many(other, goal, turned_row(row)), how_many(chart, row, content))
            held = Spans(chart.lanes, draw.differences(chart.lanes, 2, 4, 0))
            self.same([behind(-held, other), keeps(-held, other)], [-behind(held, chart), keeps(held, chart)])
            self.same(paces(other), [(-p, q) for p, q in paces(chart)])
            for number in (-2, 0, 3):
                kept = greatest_below(other, -number, goal)
                self.same(least_above(chart, number, content), kept and turned(kept))

    def test_raised(self):
        for chart, draw, _ in small_maps(60):
            number, content, row = draw.pick((1, -7, 10 ** 20)), draw.content(chart.lanes, 5), draw.row(chart.lanes, 5)
            other = raised_map(chart, number)
            found, more = lap(chart, content), moved_by(chart, content)
            self.same([other(content), lap(other, content), moved_by(other, content)],
                      [raised(chart(content), number), found and (*found[:2], found[2] + found[1] * number),
                       None if more is None else more + number])
            for tell in (heads, feet):
                self.same(tell(other, raised_row(row, number)), tell(chart, row))
            self.same(how_many(other, raised_row(row, number), raised(content, number)), how_many(chart, row, content))
            held = Spans(chart.lanes, draw.differences(chart.lanes, 2, 4, 0))
            self.same([behind(held, other), paces(other)],
                      [behind(held, chart), [(p + q * number, q) for p, q in paces(chart)]])
            told, walk = walk_of(chart)
            self.same(is_walk(other, ([(p + q * number, q) for p, q in told], walk)), True)
            self.same([best_plan(other), best_answer(other)],
                      [[tuple((j, a + number) for j, a in lot) for lot in best_plan(chart)], best_answer(chart)])
            self.same(least_above(other, 3 + number, content), least_above(chart, 3, content))

    def test_beside(self):
        for chart, draw, _ in small_maps(50):
            second = next(drawn_maps(1 + draw.below(40), 3, 2, (1, 3), (0,)))[0]
            both = chart.beside(second)
            one, two = draw.content(chart.lanes, 4), draw.content(second.lanes, 4)
            low, high = draw.row(chart.lanes, 4), draw.row(second.lanes, 4)
            self.same([both(one + two), paces(both)], [chart(one) + second(two), paces(chart) + paces(second)])
            for tell in (heads, feet):
                wanted = [ahead + later for ahead in tell(chart, low) for later in tell(second, high)]
                self.same(tell(both, low + high), sorted(wanted, key=row_key))
            many = [how_many(chart, one, chart(one)), how_many(second, two, second(two))]
            wanted = 0 if 0 in many else None if None in many else many[0] * many[1]
            self.same(how_many(both, one + two, chart(one) + second(two)), wanted)
            told, walk = walk_of(both)
            self.same([is_walk(chart, (told[:chart.lanes], walk[:chart.lanes])) or len(set(told)) > 1,
                       is_true(("even", both))], [True, len(set(told)) == 1])
            if is_true(("even", both)):
                parts = lap(chart, one), lap(second, two)
                found = lap(both, one + two)
                self.same(found[1] % math.lcm(parts[0][1], parts[1][1]), 0)

    def test_plain_maps_changed(self):
        for chart, draw in drawn_plain_maps(50, 3):
            order, second = draw.order(chart.lanes), next(drawn_plain_maps(1 + draw.below(30), 3))[0]
            first, period = comes(chart)
            self.same([comes(-chart), comes(chart.renumbered(order)), len(laps(-chart)),
                       len(laps(chart.renumbered(order)))],
                      [(first, period)] * 2 + [len(laps(chart))] * 2)
            other_first, other_period = comes(second)
            self.same(comes(chart.beside(second)), (max(first, other_first), math.lcm(period, other_period)))

    def test_nets_changed(self):
        for net, draw in drawn_nets(40, 4, 6):
            order, content = draw.order(net.lanes), draw.content(net.lanes, HUGE)
            other, second = net.renumbered(order), draw.net(2, 4)
            self.same([map_of(other), map_of(-net), map_of(net.beside(second))],
                      [map_of(net).renumbered(order), -map_of(net), map_of(net).beside(map_of(second))])
            self.same([other(moved(content, order)), (-net)(turned(content)), runs.layers(other), runs.layers(-net)],
                      [moved(net(content), order), turned(net(content)), runs.layers(net), runs.layers(net)])
            self.same([lanes_hung(other, order[lane]) for lane in range(net.lanes)],
                      [sorted(order[own] for own in lanes_hung(net, lane)) for lane in range(net.lanes)])
            self.same([runs.cone(-net, lane) for lane in range(net.lanes)],
                      [runs.cone(net, lane) for lane in range(net.lanes)])
            self.same([is_steps(net, steps_of(net)), is_true(("alike", net, -(-net)))], [True, True])

    def test_one_lot_a_lane(self):
        for seed in range(30):
            draw = Draw(seed)
            lots = [draw.lot(4, 9) for _ in range(4)]
            chart, order = Map([Family([lot]) for lot in lots]), draw.order(4)
            means = sorted(mean for _, mean in rings(chart))
            self.same([sorted(mean for _, mean in rings(chart.renumbered(order))),
                       sorted(mean for _, mean in rings(raised_map(chart, 5)))],
                      [means, sorted((p + 5 * q, q) for p, q in means)])


def lap(chart, content):
    """The lap of the content; None from a map whose lanes have unlike paces."""
    return lap_of(chart, content) if len(set(paces(chart))) == 1 else None
