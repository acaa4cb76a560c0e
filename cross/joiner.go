package cross

import (
	"slices"

	"patchbay/aig"
	"patchbay/api"
)

// joiner puts two models together.
type joiner struct {
	a, b api.Model
	// graphs are those of both, in one way.
	graphs [2]api.Graph
}

func newJoiner(a, b api.Model) (*joiner, api.Errno) {
	j := &joiner{a: a, b: b}
	for i, m := range []api.Model{a, b} {
		g, e := aig.Normal(m.Graph)
		if e != api.OK {
			return nil, e
		}
		j.graphs[i] = g
	}
	if j.a.Graph.Ins+j.latches()+len(j.graphs[0].Ands)+len(j.graphs[1].Ands) > api.MaxVars {
		return nil, api.ErrLimit
	}
	return j, api.OK
}

// latches is how many both have.
func (j *joiner) latches() int { return len(j.a.Latches) + len(j.b.Latches) }

// litA is what a literal of the first graph is in the miter.
func (j *joiner) litA(lit int) int {
	if lit/2 > j.a.Graph.Ins+len(j.a.Latches) {
		return lit + 2*len(j.b.Latches)
	}
	return lit
}

// ofB tells what a literal of the second graph is in the miter; its inputs are found by their names.
func (j *joiner) ofB() func(lit int) int {
	places := placesOf(j.a.Inputs)
	ins, latchesA := j.a.Graph.Ins, len(j.a.Latches)
	return func(lit int) int {
		n := lit / 2
		switch {
		case n == 0:
			return lit
		case n <= ins:
			return 2*(1+places[j.b.Inputs[n-1]]) + lit%2
		case n <= ins+len(j.b.Latches):
			return lit + 2*latchesA
		}
		return lit + 2*(latchesA+len(j.graphs[0].Ands))
	}
}

func (j *joiner) miter() (Miter, api.Errno) {
	m := Miter{Begin: j.begin(), Pairs: j.pairs()}
	litB := j.ofB()
	g := api.Graph{Ins: j.a.Graph.Ins, Init: slices.Clone(m.Begin)}
	for i, lit := range []func(int) int{j.litA, litB} {
		for _, next := range j.graphs[i].Next {
			g.Next = append(g.Next, lit(next))
		}
		for _, and := range j.graphs[i].Ands {
			g.Ands = append(g.Ands, [2]int{lit(and[0]), lit(and[1])})
		}
	}
	places := placesOf(j.b.Outputs)
	var outs []int
	for i, s := range j.a.Outputs {
		x, y := j.litA(j.graphs[0].Outs[i]), litB(j.graphs[1].Outs[places[s]])
		h, out, e := differ(g, x, y)
		if e != api.OK {
			return Miter{}, e
		}
		g = h
		outs = append(outs, out)
	}
	g.Outs = outs
	m.Graph = g
	return m, api.OK
}

// differ is a graph with a literal that is true where two are not the same: three ands, as lower makes them.
func differ(g api.Graph, x, y int) (api.Graph, int, api.Errno) {
	g, p, e := aig.And(g, x, turned(y))
	if e != api.OK {
		return api.Graph{}, 0, e
	}
	g, q, e := aig.And(g, turned(x), y)
	if e != api.OK {
		return api.Graph{}, 0, e
	}
	g, r, e := aig.And(g, turned(p), turned(q))
	if e != api.OK {
		return api.Graph{}, 0, e
	}
	return g, turned(r), api.OK
}

func turned(lit int) int { return lit ^ 1 }

// begin is how all latches begin: what one of a name begins with, the other one does, too, if it may.
func (j *joiner) begin() []int {
	all := slices.Concat(j.a.Graph.Init, j.b.Graph.Init)
	first := 1 + j.a.Graph.Ins
	for _, pair := range j.pairs() {
		x, y := pair[0]-first, pair[1]-first
		switch {
		case all[x] == either:
			all[x] = all[y]
		case all[y] == either:
			all[y] = all[x]
		}
	}
	return all
}

// pairs are the numbers of the latches whose name both have.
func (j *joiner) pairs() [][2]int {
	places := placesOf(j.b.Latches)
	first := 1 + j.a.Graph.Ins
	var all [][2]int
	for i, s := range j.a.Latches {
		if k, ok := places[s]; ok {
			all = append(all, [2]int{first + i, first + len(j.a.Latches) + k})
		}
	}
	return all
}

// mayMatch tells whether there are two states that match.
func (j *joiner) mayMatch() bool {
	begin := j.begin()
	first := 1 + j.a.Graph.Ins
	return !slices.ContainsFunc(j.pairs(), func(pair [2]int) bool { return begin[pair[0]-first] != begin[pair[1]-first] })
}
