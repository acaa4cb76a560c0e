package inv

import (
	"iter"
	"slices"

	"patchbay/api"
	"patchbay/cnf"
)

// either is how a latch begins that may have any value.
const either = 2

// question asks whether something can be that should not.
type question struct {
	part, clause int
	unrolled     cnf.Cnf
	// clauses are those that hold just where it is.
	clauses func() []api.Clause
}

// asker asks about one model, and clauses of its latches.
type asker struct {
	m      api.Model
	l      [][]Lit
	bad    int
	places map[string]int
	// begin is the states that are allowed to begin with, step any state and one step from it.
	begin, step cnf.Cnf
}

func newAsker(m api.Model, l [][]Lit, bad int) (*asker, api.Errno) {
	begin, e := cnf.Unroll(m.Graph, m.Graph.Init, 0)
	if e != api.OK {
		return nil, e
	}
	step, e := cnf.Unroll(m.Graph, slices.Repeat([]int{either}, len(m.Latches)), 1)
	if e != api.OK {
		return nil, e
	}
	return &asker{m: m, l: l, bad: bad, places: latchPlaces(m), begin: begin, step: step}, api.OK
}

// questions tells one question after the other.
func (a *asker) questions() iter.Seq[question] {
	return func(yield func(question) bool) {
		for i := range a.l {
			begins := func() []api.Clause { return slices.Concat(a.begin.Clauses, a.fails(a.begin, 0, i)) }
			if !yield(question{part: 0, clause: i, unrolled: a.begin, clauses: begins}) {
				return
			}
		}
		for i := range a.l {
			steps := func() []api.Clause { return slices.Concat(a.step.Clauses, a.allHold(), a.fails(a.step, 1, i)) }
			if !yield(question{part: 1, clause: i, unrolled: a.step, clauses: steps}) {
				return
			}
		}
		if a.bad != noBad {
			isBad := func() []api.Clause {
				return slices.Concat(a.step.Clauses, a.allHold(), []api.Clause{{cnf.Lit(a.step, 0, a.m.Graph.Outs[a.bad])}})
			}
			yield(question{part: 2, unrolled: a.step, clauses: isBad})
		}
	}
}

// lits are the literals of a clause in a row, each as often as once.
func (a *asker) lits(u cnf.Cnf, t, clause int) []int {
	var all []int
	for _, lit := range a.l[clause] {
		of := 2 * (1 + a.m.Graph.Ins + a.places[lit.Name])
		if lit.Not {
			of++
		}
		all = append(all, cnf.Lit(u, t, of))
	}
	slices.Sort(all)
	return slices.Compact(all)
}

// fails tells that no literal of a clause holds in a row.
func (a *asker) fails(u cnf.Cnf, t, clause int) []api.Clause {
	var all []api.Clause
	for _, lit := range a.lits(u, t, clause) {
		all = append(all, api.Clause{-lit})
	}
	return all
}

// allHold tells that all clauses hold ahead of the step.
func (a *asker) allHold() []api.Clause {
	var all []api.Clause
	for i := range a.l {
		all = append(all, api.Clause(a.lits(a.step, 0, i)))
	}
	return all
}

// state is the state of the first row, as values of variables tell it.
func (a *asker) state(q question, values []bool) []bool {
	var state []bool
	for i := range a.m.Latches {
		lit := cnf.Lit(q.unrolled, 0, 2*(1+a.m.Graph.Ins+i))
		state = append(state, values[max(lit, -lit)-1] == (lit > 0))
	}
	return state
}
