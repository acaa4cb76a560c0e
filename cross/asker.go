package cross

import (
	"iter"
	"slices"

	"patchbay/api"
	"patchbay/cnf"
	"patchbay/solve"
)

// asker asks, step by step, whether two machines differ.
type asker struct {
	Miter
	// latches is how many each of both has.
	latches       [2]int
	budget, spent int
}

// steps tells 1, 2 and so on.
func steps(k int) iter.Seq[int] {
	return func(yield func(int) bool) {
		for n := 1; n <= k; n++ {
			if !yield(n) {
				return
			}
		}
	}
}

// ask tells whether outputs may differ in the last one of n steps.
func (x *asker) ask(n int) (Answer, api.Errno) {
	u, e := cnf.Unroll(x.Graph, x.Begin, n)
	if e != api.OK {
		return Answer{}, e
	}
	told, e := solve.Solve(slices.Concat(u.Clauses, x.matches(u), x.differs(u, n)), u.Vars, max(x.budget-x.spent, 0))
	if e != api.OK {
		return Answer{}, e
	}
	x.spent += told.Conflicts
	answer := Answer{Res: told.Res, Conflicts: x.spent}
	if answer.Res == resDiffer {
		x.tell(&answer, n, reader(u, told.Values))
	}
	return answer, api.OK
}

// matches tells that latches of one name are alike at first.
func (x *asker) matches(u cnf.Cnf) []api.Clause {
	var all []api.Clause
	for _, pair := range x.Pairs {
		p, q := cnf.Lit(u, 0, 2*pair[0]), cnf.Lit(u, 0, 2*pair[1])
		all = append(all, api.Clause{-p, q}, api.Clause{p, -q})
	}
	return all
}

// differs tells that outputs are not the same in the last one of n steps.
func (x *asker) differs(u cnf.Cnf, n int) []api.Clause {
	c := api.Clause{}
	for _, out := range x.Graph.Outs {
		c = append(c, cnf.Lit(u, n-1, out))
	}
	return []api.Clause{c}
}

// reader reads the value of a graph's literal in a row.
func reader(u cnf.Cnf, values []bool) func(t, lit int) bool {
	return func(t, lit int) bool {
		l := cnf.Lit(u, t, lit)
		return values[max(l, -l)-1] == (l > 0)
	}
}

// tell tells how both differ in the last one of n steps.
func (x *asker) tell(answer *Answer, n int, value func(t, lit int) bool) {
	state := func(from, many int) []bool {
		var all []bool
		for i := range many {
			all = append(all, value(0, 2*(from+i)))
		}
		return all
	}
	first := 1 + x.Graph.Ins
	answer.A = state(first, x.latches[0])
	answer.B = state(first+x.latches[0], x.latches[1])
	for t := range n {
		var row []bool
		for i := range x.Graph.Ins {
			row = append(row, value(t, 2*(1+i)))
		}
		answer.Seq = append(answer.Seq, row)
	}
	answer.Out = slices.IndexFunc(x.Graph.Outs, func(out int) bool { return value(n-1, out) })
}
