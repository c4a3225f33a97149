"""What scripts do not need, and scripts that do the same with less."""

from passtexts.alike import Same, judge_thrifty_ones
from passtexts.compiling import compiled
from passtexts.doing import rules_without_calls
from passtexts.errors import TooLarge
from passtexts.guards import asked_by
from passtexts.scripts import Script, check_script
from passtexts.statements import counters_asked, parts_called, without_counters
from passtexts.thrifty import Thrifty, check_thrifty, judge_thrifty
from passtexts.unfolding import Unfolding


def unused_rules(script):
    """The ascending list of the numbers of the rules that are done for no text."""
    check_script(script)
    done = list(Unfolding(script).rules.values())
    return [number for number in range(len(script.rules)) if number not in done]


def unused_ends(script):
    """The ascending list of the numbers of the ends that are the first ones to fit for no text."""
    check_script(script)
    unfolding = Unfolding(script)
    fitting = [unfolding.end_at(place) for place in unfolding.places.told]
    return [number for number in range(len(script.ends)) if number not in fitting]


def needless_rules(script):
    """The ascending list of the numbers of the rules each of which, taken out alone, leaves a script that does."""
    program = thrifty_program(script)
    return [number for number in range(len(script.rules))
            if program_if_same(without_rule(script, number), program) is not None]


def inlined(script):
    """The script without parts, with their statements in the place of the calls."""
    check_script(script)
    return remade(script, script.counters, [], rules_without_calls(script), script.ends)


def narrowed(script):
    """The script whose counters' mosts are the greatest values that they have, whatever is read."""
    check_script(script)
    return remade(script, Unfolding(script).greatest, script.parts, script.rules, script.ends)


def improved(script):
    """The script without what can be taken out, again and again, until nothing changes any more."""
    program = thrifty_program(script)
    while True:
        better = narrowed(without_idle_counters(without_idle_parts(leaner(script, program))))
        if better == script:
            return better
        script = better
        program = compiled(script)


def thrifty_program(script):
    """The program of a script, if it is thrifty."""
    program = compiled(script)
    check_thrifty(program)
    return program


def program_if_same(script, program):
    """The program of a script, if it is thrifty, and writes the same as another thrifty one for all texts.

    None, if it does not, or if the script cannot be compiled.
    """
    try:
        other = compiled(script)
    except TooLarge:
        return None
    if other == program:
        return other
    if not isinstance(judge_thrifty(other), Thrifty):
        return None
    return other if isinstance(judge_thrifty_ones(other, program), Same) else None


def leaner(script, program):
    """The script from which rules are taken, from the last one on, if the rest writes the same, then ends likewise."""
    for number in reversed(range(len(script.rules))):
        less = without_rule(script, number)
        found = program_if_same(less, program)
        if found is not None:
            script, program = less, found
    for number in reversed(range(len(script.ends))):
        less = without_end(script, number)
        found = program_if_same(less, program)
        if found is not None:
            script, program = less, found
    return script


def remade(script, counters, parts, rules, ends):
    """The script with other counters, parts, rules and ends."""
    return Script(script.letters, counters, script.texts, parts, rules, ends)


def without_rule(script, number):
    """The script without a rule."""
    rules = script.rules[:number] + script.rules[number + 1:]
    return remade(script, script.counters, script.parts, rules, script.ends)


def without_end(script, number):
    """The script without an end."""
    ends = script.ends[:number] + script.ends[number + 1:]
    return remade(script, script.counters, script.parts, script.rules, ends)


def without_idle_parts(script):
    """The script without the parts that no rule calls, itself or by a part that it calls."""
    called = [name for _, _, statements in script.rules for name in parts_called(statements)]
    left = []
    # parts call parts ahead of them alone
    for part in script.parts[::-1]:
        if part[0] in called:
            left.append(part)
            called.extend(parts_called(part[2]))
    return remade(script, script.counters, left[::-1], script.rules, script.ends)


def without_idle_counters(script):
    """The script without the counters that no guard asks, and no statement that sets another counter, until none."""
    asked = all_counters_asked(script)
    while not all([name in asked for name in script.counters]):
        counters = {name: script.counters[name] for name in script.counters if name in asked}
        idle = [name for name in script.counters if name not in asked]
        parts = [(name, own, without_counters(statements, idle)) for name, own, statements in script.parts]
        rules = [(letters, guard, without_counters(statements, idle)) for letters, guard, statements in script.rules]
        script = remade(script, counters, parts, rules, script.ends)
        asked = all_counters_asked(script)
    return script


def all_counters_asked(script):
    """The list of the counters that a guard of a script asks, or a statement that sets another counter."""
    blocks = [part[2] for part in script.parts] + [rule[2] for rule in script.rules]
    guards = [rule[1] for rule in script.rules] + [end[0] for end in script.ends]
    found = [name for statements in blocks for name in counters_asked(statements)]
    return found + [name for guard in guards for name in asked_by(guard)]
