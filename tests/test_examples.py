"""The examples of the document, word for word: `raises` stands for the error of the call above it."""

import unittest

from versionjudge.errors import VersionError

VERSIONS = """
>>> from versionjudge.versions import is_early, is_version, next_version, read_version, version_text
>>> [is_version((1, 2, 3, 3, 0)), is_version((1, 2, 3, 3, 1)), is_early((1, 0, 0, 2, 5)), next_version((1, 2, 3, 1, 4)), next_version((1, 2, 3, 3, 0)), version_text((1, 2, 3, 1, 4)), read_version('0.10.0')]
[True, False, True, (1, 2, 3, 1, 5), (1, 2, 4, 0, 0), '1.2.3-beta.4', (0, 10, 0, 3, 0)]
>>> read_version('1.02.3')
raises BadText(at=3)
>>> read_version('1.2.3-b')
raises BadText(at=7)
"""

RANGES = """
>>> from versionjudge.ranges import cut, every, has, is_range, joined, judge_same, judge_within, least_in, only, range_text, read_range, without
>>> ONE, TWO = (1, 0, 0, 3, 0), (2, 0, 0, 3, 0)
>>> [is_range(((ONE, TWO), (TWO, None))), every(), only(ONE), has(((ONE, None),), TWO), least_in(()), joined(((ONE, TWO),), ((TWO, None),)), cut(((ONE, None),), (((0, 0, 0, 0, 0), TWO),)), without(every(), only(ONE))]
[False, (((0, 0, 0, 0, 0), None),), (((1, 0, 0, 3, 0), (1, 0, 1, 0, 0)),), True, None, (((1, 0, 0, 3, 0), None),), (((1, 0, 0, 3, 0), (2, 0, 0, 3, 0)),), (((0, 0, 0, 0, 0), (1, 0, 0, 3, 0)), ((1, 0, 1, 0, 0), None))]
>>> [judge_within(((ONE, None),), ((ONE, TWO),)), judge_same(((ONE, TWO),), ((ONE, TWO),)), read_range('^1.2.0'), read_range('~0.3.1 || >=2.0.0 <2.0.0-rc.1'), range_text(read_range('>1.0.0 <=1.0.2')), range_text(())]
[('version', (2, 0, 0, 3, 0)), ('same',), (((1, 2, 0, 3, 0), (2, 0, 0, 0, 0)),), (((0, 3, 1, 3, 0), (0, 4, 0, 0, 0)),), '>=1.0.1-alpha.0 <1.0.3-alpha.0', '<0.0.0-alpha.0']
>>> read_range('>=1.0.0 | 2')
raises BadText(at=9)
"""

TARGETS = """
>>> from versionjudge.targets import alike_holds, condition_holds, condition_text, does_hold, is_condition, is_target, judge_alike, judge_condition, read_condition, read_target, target_text
>>> LINUX, NEITHER = ("is", "os", "linux"), ("not", ("either", ("is", "os", "linux"), ("is", "os", "mac")))
>>> [is_target((("arch", "arm"), ("os", "linux"))), is_target((("os", "linux"), ("os", "mac"))), does_hold(NEITHER, ()), does_hold(LINUX, (("os", "linux"),)), judge_alike(("not", ("not", LINUX)), LINUX), judge_condition(LINUX, NEITHER)[0]]
[True, False, True, True, ('alike',), 'target']
>>> [condition_text(NEITHER), read_condition('(os=mac and not always)'), target_text((("arch", "arm"), ("os", "linux"))), read_target(''), alike_holds(LINUX, NEITHER, ("target", ())), condition_holds(LINUX, NEITHER, ("target", ())), is_condition(("is", "OS", "linux"))]
['not (os=linux or os=mac)', ('both', ('is', 'os', 'mac'), ('not', ('always',))), 'arch=arm,os=linux', (), True, False, False]
>>> read_condition('(os=mac or )')
raises BadText(at=11)
"""

STORES = r"""
>>> from versionjudge.stores import is_world, lacking, names_of, need_text, read_need, read_world, shown, stand_ins, world_text
>>> ONE, TWO = (1, 0, 0, 3, 0), (2, 0, 0, 3, 0)
>>> CORE, BARE = ("core", ((ONE, None),), (), ("always",)), (ONE, (), (), (), (), False)
>>> WORLD = (("main", (("app", ((TWO, (CORE,), (), (), (), False),)), ("core", (BARE,)))), ("side", (("core", ((TWO, (), (), (), (("base", ONE),), True),)),)))
>>> [is_world(WORLD), is_world(()), names_of(WORLD), shown(WORLD, "core", "first"), [label for label, release in shown(WORLD, "core", "all")], stand_ins(WORLD, "base", "all"), stand_ins(WORLD, "base", "first"), lacking(WORLD)]
[True, False, ('app', 'core'), (('main', ((1, 0, 0, 3, 0), (), (), (), (), False)),), ['main', 'side'], (('core', 'side', (2, 0, 0, 3, 0), (1, 0, 0, 3, 0)),), (), ()]
>>> [need_text(("core", ((ONE, TWO),), ("fast", "safe"), ("is", "os", "mac"))), read_need('core ^1.0.0'), world_text(WORLD[1:]), read_world(world_text(WORLD)) == WORLD]
['core[fast,safe] >=1.0.0 <2.0.0 if os=mac', ('core', (((1, 0, 0, 3, 0), (2, 0, 0, 0, 0)),), (), ('always',)), 'store side\nshelf core\nrelease 2.0.0\nwithdrawn\nstand base 1.0.0', True]
>>> read_world('store main\nshelf core')
raises BadText(at=3)
"""

ASKS = """
>>> from versionjudge.asks import is_asks, is_right, reached, states, told, variables
>>> ONE, TWO, EVERY, ALWAYS = (1, 0, 0, 3, 0), (2, 0, 0, 3, 0), (((0, 0, 0, 0, 0), None),), ("always",)
>>> NEW, OLD = (TWO, (("core", ((TWO, None),), (), ALWAYS),), (), (), (), False), (ONE, (("core", ((ONE, TWO),), (), ALWAYS),), (), (), (), False)
>>> WORLD = (("main", (("app", (OLD, NEW)), ("core", ((ONE, (), (), (), (), False),)))),)
>>> ASKS = ((("app", EVERY, (), ALWAYS),), (), (), ("newest", "all", False))
>>> [is_asks(ASKS), reached(WORLD, ASKS), variables(WORLD, ASKS), states(WORLD, ASKS, 0), is_right(WORLD, ASKS, (2, 1)), is_right(WORLD, ASKS, (1, 1))]
[True, ('app', 'core'), (('app', ''), ('core', '')), (('none',), ('own', 'main', (2, 0, 0, 3, 0)), ('own', 'main', (1, 0, 0, 3, 0))), True, False]
>>> KEPT = (ASKS[0], (), (("app", ("main", ONE)),), ("newest", "all", False))
>>> [states(WORLD, KEPT, 0)[0], told(WORLD, ASKS, (2, 1))]
[('own', 'main', (1, 0, 0, 3, 0)), ((('app', ('own', 'main', (1, 0, 0, 3, 0))), ('core', ('own', 'main', (1, 0, 0, 3, 0)))), ())]
"""

PROBLEMS = """
>>> from versionjudge.problems import are_lines, bar_holds, bars_of, do_cover, does_meet, is_bar, is_problem, is_right_choice, join, judge_bar
>>> FEW = ((3, 2), (((0, (0,)),), ((0, (1,)),), ((0, (2,)), (1, (0,)))))
>>> LINES = (("given", 0), ("given", 1), ("join", 0, 0, 1), ("given", 2))
>>> [is_problem(FEW), is_bar((3, 2), ((1, (0, 1)),)), does_meet(FEW, (2, 0), ((0, (2,)), (1, (0,)))), is_right_choice(FEW, (2, 0)), is_right_choice(FEW, (2, 1)), join(FEW, 0, ((0, (0,)), (1, (0,))), ((0, (1,)), (1, (1,))))]
[True, False, True, False, True, None]
>>> [are_lines(FEW, LINES), bars_of(FEW, LINES), do_cover(FEW, LINES[:3], ((0, (1,)),)), judge_bar(FEW, ()), bar_holds(FEW, ((0, (1,)),), ("lines", (("given", 1),))), join(((2,), ()), 0, ((0, (0,)),), ((0, (1,)),))]
[True, (((0, (0,)),), ((0, (1,)),), ((0, (0, 1)),), ((0, (2,)), (1, (0,)))), True, ('choice', (2, 1)), True, ()]
"""

RESOLVER = """
>>> from versionjudge.resolver import first_choice, plain_first, possible, resolve, resolve_holds
>>> FEW = ((3, 2), (((0, (0,)),), ((0, (1,)),), ((0, (2,)), (1, (0,)))))
>>> LINES = (("given", 0), ("given", 1), ("join", 0, 0, 1), ("given", 2))
>>> [resolve(FEW)[:2], first_choice(FEW), plain_first(FEW), possible(FEW), resolve_holds(FEW, ("choice", (2, 1), LINES, (2, 3))), resolve_holds(FEW, ("choice", (2, 1), LINES, (1, 3)))]
[('choice', (2, 1)), (2, 1), (2, 1), ((2,), (1,)), True, False]
>>> [resolve(((2,), (((0, (0,)),), ((0, (1,)),))))[0], resolve_holds(((2,), (((0, (0,)),), ((0, (1,)),))), ("none", (("given", 0), ("given", 1), ("join", 0, 0, 1)))), first_choice(((), ((),))), resolve(((), ()))]
['none', True, None, ('choice', (), (), ())]
"""

DEMANDS = """
>>> from versionjudge.demands import answer, answer_holds, causes, chosen, problem_of
>>> ONE, TWO, EVERY, ALWAYS = (1, 0, 0, 3, 0), (2, 0, 0, 3, 0), (((0, 0, 0, 0, 0), None),), ("always",)
>>> NEW, OLD = (TWO, (("core", ((TWO, None),), (), ALWAYS),), (), (), (), False), (ONE, (("core", ((ONE, TWO),), (), ALWAYS),), (), (), (), False)
>>> WORLD = (("main", (("app", (OLD, NEW)), ("core", ((ONE, (), (), (), (), False),)))),)
>>> ASKS = ((("app", EVERY, (), ALWAYS),), (), (), ("newest", "all", False))
>>> [problem_of(WORLD, ASKS), causes(WORLD, ASKS), chosen(WORLD, ASKS), answer(WORLD, ASKS)[:2]]
[((3, 2), (((0, (0,)),), ((0, (1,)),), ((0, (2,)), (1, (0,))))), (('wish', 0, ''), ('need', 0, 1, 0, ''), ('need', 0, 2, 0, '')), (2, 1), ('choice', (2, 1))]
>>> answer(WORLD, ((("app", ((TWO, None),), (), ALWAYS),), (), (), ("newest", "all", False)))[0]
'none'
"""

QUESTIONS = """
>>> from versionjudge.questions import clash_holds, judge_clash, judge_state, names_in, names_out, sure
>>> ONE, TWO, EVERY, ALWAYS = (1, 0, 0, 3, 0), (2, 0, 0, 3, 0), (((0, 0, 0, 0, 0), None),), ("always",)
>>> NEW, OLD = (TWO, (("core", ((TWO, None),), (), ALWAYS),), (), (), (), False), (ONE, (("core", ((ONE, TWO),), (), ALWAYS),), (), (), (), False)
>>> WORLD = (("main", (("app", (OLD, NEW)), ("core", ((ONE, (), (), (), (), False),)))),)
>>> ASKS, HIGH = ((("app", EVERY, (), ALWAYS),), (), (), ("newest", "all", False)), ((("app", ((TWO, None),), (), ALWAYS),), (), (), ("newest", "all", False))
>>> [judge_state(WORLD, ASKS, 1, 1), judge_state(WORLD, ASKS, 0, 1)[0], judge_clash(WORLD, ASKS), judge_clash(WORLD, HIGH)[:2], names_in(WORLD, ASKS), names_out(WORLD, ASKS), sure(WORLD, ASKS)[0]]
[('choice', (2, 1)), 'lines', ('right', (2, 1)), ('clash', (0,)), ('app', 'core'), (), ('app', ('own', 'main', (1, 0, 0, 3, 0)))]
>>> clash_holds(WORLD, HIGH, ("clash", (0,), (("given", 0), ("given", 1), ("join", 0, 0, 1)), ((0, 0),)))
True
"""

STORIES = """
>>> from versionjudge.stories import bar_text, depth_of, read_story, shortened, state_text, story, tells_none
>>> ONE, TWO, ALL = (1, 0, 0, 3, 0), (2, 0, 0, 3, 0), (((0, 0, 0, 0, 0), None),)
>>> WORLD = (("main", (("app", ((TWO, (("core", ((ONE, None),), (), ("always",)),), (), (), (), False),)), ("core", ((ONE, (), (), (), (), False),)))),)
>>> ASKS = ((("app", ALL, (), ("always",)),), (), (), ("newest", "all", False))
>>> LINES = (("given", 0), ("given", 1), ("join", 0, 0, 1))
>>> story(WORLD, ASKS, LINES)
('1: given 1, wish 1 app *: never app is none', '2: given 2, app main 2.0.0 needs core >=1.0.0: never app is main 2.0.0, core is none', '3: from 1 and 2 at app: never core is none')
>>> [read_story(WORLD, ASKS, story(WORLD, ASKS, LINES)) == LINES, state_text(WORLD, ASKS, 1, 1), bar_text(WORLD, ASKS, ()), shortened(((2, 2), (((0, (0,)),), ((0, (1,)), (1, (0,))))), (("given", 0), ("given", 1), ("given", 1), ("join", 0, 0, 2)), (None, 3)), depth_of(((2,), (((0, (0,)),),)), (("given", 0),)), tells_none(WORLD, ASKS, ())]
[True, 'main 1.0.0', 'anything', ((('given', 0), ('given', 1), ('join', 0, 0, 1)), (None, 2)), 0, False]
>>> read_story(WORLD, ASKS, ('1: given 1, wish 1 app *: never app is none', '2: given 7'))
raises BadStory(at=1)
"""

LOCKS = r"""
>>> from versionjudge.locks import changes, choice_of, judge_lock, lock_holds, lock_of, lock_text, read_lock, with_kept
>>> ONE, TWO, ALL = (1, 0, 0, 3, 0), (2, 0, 0, 3, 0), (((0, 0, 0, 0, 0), None),)
>>> WORLD = (("main", (("app", ((TWO, (("core", ((ONE, None),), (), ("always",)),), (), (), (), False),)), ("core", ((ONE, (), (), (), (), False),)))),)
>>> ASKS = ((("app", ALL, (), ("always",)),), (), (), ("newest", "all", False))
>>> LOCK = ((), (("app", ("own", "main", TWO), ()), ("core", ("own", "main", ONE), ())))
>>> [lock_of(WORLD, ASKS, (1, 1)) == LOCK, choice_of(WORLD, ASKS, LOCK), judge_lock(WORLD, ASKS, LOCK), judge_lock(WORLD, ASKS, ((), LOCK[1][:1])), lock_holds(WORLD, ASKS, ((), ()), ("bar", 0)), judge_lock(WORLD, ASKS, ((("os", "mac"),), ()))[0] in ("target", "bar")]
[True, (1, 1), ('kept', (1, 1)), ('bar', 1), True, True]
>>> [with_kept(ASKS, LOCK)[2], changes(((), ()), ((), LOCK[1][1:])), lock_text(LOCK), read_lock(lock_text(LOCK)) == LOCK]
[(('app', ('main', (2, 0, 0, 3, 0))), ('core', ('main', (1, 0, 0, 3, 0)))), (('core', None, (('own', 'main', (1, 0, 0, 3, 0)), ())),), 'target\napp main 2.0.0\ncore main 1.0.0', True]
>>> lock_of(WORLD, ASKS, (0, 0))
raises NotRight(thing=(0, 0))
"""

PLANS = """
>>> from versionjudge.plans import ahead, binds, is_plan, lots, moved, plan_holds, standing
>>> ONE, TWO, EVERY, ALWAYS = (1, 0, 0, 3, 0), (2, 0, 0, 3, 0), (((0, 0, 0, 0, 0), None),), ("always",)
>>> NEW, OLD = (TWO, (("core", ((TWO, None),), (), ALWAYS),), (), (), (), False), (ONE, (("core", ((ONE, TWO),), (), ALWAYS),), (), (), (), False)
>>> BARE = ((ONE, (), (), (), (), False), (TWO, (), (), (), (), False))
>>> WORLD = (("main", (("app", (OLD, NEW)), ("core", BARE))),)
>>> ASKS = ((("app", EVERY, (), ALWAYS),), (), (), ("newest", "all", False))
>>> [moved(WORLD, ASKS, (2, 2), (1, 1)), binds(WORLD, ASKS, (2, 2), (1, 1)), lots(WORLD, ASKS, (2, 2), (1, 1)), is_plan(WORLD, ASKS, (2, 2), (1, 1), (("core",), ("app",))), standing(WORLD, ASKS, (2, 2), (1, 1), ("core",)), ahead(WORLD, ASKS, (2, 2), (1, 1))]
[('app', 'core'), (('app', 'core', 1), ('core', 'app', 2)), (('app', 'core'),), False, (2, 1), ()]
>>> plan_holds(WORLD, ASKS, (2, 2), (1, 1), ("plan", (("app", "core"),), ((("app", "core", 1), ("core", "app", 2)),)))
True
"""

SPREADS = """
>>> from versionjudge.spreads import first_spread, is_right_spread, spread_answer, spread_problem
>>> ONE, EVERY, ALWAYS = (1, 0, 0, 3, 0), (((0, 0, 0, 0, 0), None),), ("always",)
>>> APP, CORE = (ONE, (("core", EVERY, (), ("is", "os", "linux")),), (), (), (), False), (ONE, (), (), (), (), False)
>>> WORLD = (("main", (("app", (APP,)), ("core", (CORE,)))),)
>>> ASKS, BOTH = ((("app", EVERY, (), ALWAYS),), (), (), ("newest", "all", False)), ((("os", "linux"),), (("os", "mac"),))
>>> [first_spread(WORLD, ASKS, BOTH), spread_problem(WORLD, ASKS, BOTH), is_right_spread(WORLD, ASKS, BOTH, ((1, 1), (0,))), spread_answer(WORLD, ASKS, BOTH)[:2]]
[((1, 1), (1,)), ((2, 2, 2), (((0, (0,)),), ((0, (1,)), (1, (0,))), ((2, (0,)),))), False, ('choice', (1, 1, 1))]
"""

DESKS = r"""
>>> from versionjudge.desks import Desk, read_desk
>>> ONE, TWO, ALL = (1, 0, 0, 3, 0), (2, 0, 0, 3, 0), (((0, 0, 0, 0, 0), None),)
>>> WORLD = (("main", (("core", ((ONE, (), (), (), (), False),)),)),)
>>> desk = Desk(WORLD, ((("core", ALL, (), ("always",)),), (), (), ("newest", "all", False)))
>>> [desk.do(("install",)), desk.installed(), desk.do(("put", "main", "core", (TWO, (), (), (), (), False))), desk.do(("install",)), desk.installed()[1][0][1], desk.state_of_lock()]
[None, ((), (('core', ('own', 'main', (1, 0, 0, 3, 0)), ()),)), None, None, ('own', 'main', (1, 0, 0, 3, 0)), ('kept', (0,))]
>>> [desk.do(("unwish", 0)), desk.do(("wish", ("core", ((TWO, None),), (), ("always",)))), desk.do(("install",)), desk.installed()[1], desk.undo(), desk.text(), read_desk(desk.text()) == desk]
[None, None, None, (('core', ('own', 'main', (2, 0, 0, 3, 0)), ()),), None, 'store main\nshelf core\nrelease 1.0.0\nrelease 2.0.0\nwish core >=2.0.0\nfor\nmanner newest all whole\ninstalled\ntarget\ncore main 1.0.0', True]
>>> desk.do(("unwish", 1))
raises BadDeed(thing=('unwish', 1))
"""


def steps(example):
    """The code of each step of an example, and the row that tells its result, if there is one."""
    rows = example.strip().split("\n")
    for row, following in zip(rows, rows[1:] + [""]):
        if row.startswith(">>> "):
            yield row[4:], None if following.startswith(">>> ") or not following else following


def shown(code, names):
    """What the document shows for an expression."""
    try:
        return repr(eval(code, names))
    except VersionError as error:
        told = ", ".join(f"{name}={value!r}" for name, value in vars(error).items())
        return f"raises {type(error).__name__}({told})"


class ExamplesTest(unittest.TestCase):
    def check(self, example, results):
        names = {}
        checked = 0
        for code, result in steps(example):
            if result is None:
                exec(code, names)
            else:
                self.assertEqual(shown(code, names), result, code)
                checked += 1
        self.assertEqual(checked, results)

    def test_versions(self):
        self.check(VERSIONS, 3)

    def test_ranges(self):
        self.check(RANGES, 3)

    def test_targets(self):
        self.check(TARGETS, 3)

    def test_stores(self):
        self.check(STORES, 3)

    def test_asks(self):
        self.check(ASKS, 2)

    def test_problems(self):
        self.check(PROBLEMS, 2)

    def test_resolver(self):
        self.check(RESOLVER, 2)

    def test_demands(self):
        self.check(DEMANDS, 2)

    def test_questions(self):
        self.check(QUESTIONS, 2)

    def test_stories(self):
        self.check(STORIES, 3)

    def test_locks(self):
        self.check(LOCKS, 3)

    def test_plans(self):
        self.check(PLANS, 2)

    def test_spreads(self):
        self.check(SPREADS, 1)

    def test_desks(self):
        self.check(DESKS, 3)


if __name__ == "__main__":
    unittest.main()
