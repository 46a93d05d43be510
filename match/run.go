package match

// NoRule stands where no rule matches.
const NoRule = -1

// Run is the use of a machine within one call. It keeps what was worked out
// once, so that the machine itself never changes: rules that are asked again,
// or by two at the same time, answer as if they were new.
type Run struct {
	machine *Machine
	known   map[step]outcome
}

// step is a state, the places that may take the next unit, and the rune of
// that unit.
type step struct {
	state Bits
	unit  rune
}

// outcome is what comes of a step: the state behind it, and the first rule
// of which a match ends with it.
type outcome struct {
	state Bits
	rule  int
}

// Run begins a run.
func (m *Machine) Run() *Run {
	return &Run{machine: m, known: map[step]outcome{}}
}

// Longest looks for matches that begin with the first unit: how many units
// the longest has, and the first rule that matches these; 0 and NoRule, if
// there is none.
func (r *Run) Longest(units []rune) (int, int) {
	length, rule := 0, NoRule
	state := r.machine.first
	for i, unit := range units {
		if state == (Bits{}) {
			break
		}
		out := r.take(step{state, unit})
		if out.rule != NoRule {
			length, rule = i+1, out.rule
		}
		state = out.state
	}
	return length, rule
}

func (r *Run) take(s step) outcome {
	out, ok := r.known[s]
	if !ok {
		out = r.machine.workOut(s)
		r.known[s] = out
	}
	return out
}

func (m *Machine) workOut(s step) outcome {
	out := outcome{rule: NoRule}
	for i, p := range m.places {
		if !s.state.has(i) || !p.set.Has(s.unit) {
			continue
		}
		out.state = out.state.or(p.behind)
		// The places of the first rule come first.
		if p.last && out.rule == NoRule {
			out.rule = p.rule
		}
	}
	return out
}
