package aiger

import (
	"slices"

	"patchbay/api"
	"patchbay/lower"
)

// placed is a literal, and the place at which it stands.
type placed struct{ lit, at int }

// latch is a latch as its line tells it.
type latch struct {
	own, next placed
	init      int
}

// and is an and as its line tells it.
type and struct {
	own  placed
	kids [2]placed
}

// parser reads a text.
type parser struct {
	reader
	// top is the greatest literal.
	top     int
	defined [api.MaxVars + 1]bool
	inputs  []placed
	latches []latch
	outs    []placed
	ands    []and
}

func (p *parser) model() api.Model {
	h := p.header("aag")
	p.top = 2*h[ofAll] + 1
	for _, kind := range []struct {
		many int
		line func()
	}{
		{h[ofInputs], p.input}, {h[ofLatches], p.latch},
		{h[ofOutputs], p.output}, {h[ofBad], p.output}, {h[ofConstraints], p.output}, {h[ofAnds], p.and},
	} {
		for range kind.many {
			kind.line()
			p.must(lineEnd)
		}
	}
	names, f := Symbols(p.s, p.at, [5]int{h[ofInputs], h[ofLatches], h[ofOutputs], h[ofBad], h[ofConstraints]})
	if f.Err != api.OK {
		panic(f)
	}
	p.checkDefined()
	m := api.Model{
		Graph:  p.graph(p.order()),
		Inputs: names[0], Latches: names[1], Outputs: slices.Concat(names[2], names[3], names[4]),
	}
	if e := lower.Check(m); e != api.OK {
		fail(p.s, 0, e)
	}
	return m
}

func (p *parser) input() { p.inputs = append(p.inputs, p.definition()) }

func (p *parser) latch() {
	l := latch{own: p.definition()}
	p.must(blank)
	l.next = p.literal()
	if p.stands(blank) {
		p.at++
		l.init = p.begin(l.own.lit)
	}
	p.latches = append(p.latches, l)
}

func (p *parser) output() { p.outs = append(p.outs, p.literal()) }

func (p *parser) and() {
	a := and{own: p.definition()}
	for i := range a.kids {
		p.must(blank)
		a.kids[i] = p.literal()
	}
	p.ands = append(p.ands, a)
}

func (p *parser) literal() placed {
	l := placed{at: p.at}
	l.lit = p.number()
	if l.lit > p.top {
		fail(p.s, l.at, api.ErrArg)
	}
	return l
}

// definition is a literal that is told here, and nowhere else, what it is.
func (p *parser) definition() placed {
	l := p.literal()
	if l.lit%2 == 1 || l.lit < 2 {
		fail(p.s, l.at, api.ErrArg)
	}
	if p.defined[l.lit/2] {
		fail(p.s, l.at, api.ErrTwice)
	}
	p.defined[l.lit/2] = true
	return l
}

// begin is how a latch begins: its own literal stands for either.
func (p *parser) begin(own int) int {
	at := p.at
	switch n := p.number(); n {
	case 0, 1:
		return n
	case own:
		return 2
	}
	fail(p.s, at, api.ErrArg)
	return 0
}

// checkDefined looks for a literal that is used and not defined.
func (p *parser) checkDefined() {
	var used []placed
	for _, l := range p.latches {
		used = append(used, l.next)
	}
	used = append(used, p.outs...)
	for _, a := range p.ands {
		used = append(used, a.kids[0], a.kids[1])
	}
	for _, l := range used {
		if l.lit > 1 && !p.defined[l.lit/2] {
			fail(p.s, l.at, api.ErrNone)
		}
	}
}

// order is the ands in the order in which they come: each time the first one that waits for none.
func (p *parser) order() []and {
	var waits [api.MaxVars + 1]bool
	for _, a := range p.ands {
		waits[a.own.lit/2] = true
	}
	var come []and
	for rest := p.ands; len(rest) > 0; {
		next := slices.IndexFunc(rest, func(a and) bool {
			return waits[a.own.lit/2] && !waits[a.kids[0].lit/2] && !waits[a.kids[1].lit/2]
		})
		if next < 0 {
			fail(p.s, rest[0].own.at, api.ErrLoop)
		}
		come = append(come, rest[next])
		waits[rest[next].own.lit/2] = false
		for len(rest) > 0 && !waits[rest[0].own.lit/2] {
			rest = rest[1:]
		}
	}
	return come
}

// graph is the graph of ands in an order, whose numbers are those of the graph.
func (p *parser) graph(ands []and) api.Graph {
	var to [api.MaxVars + 1]int
	many := 0
	number := func(l placed) {
		many++
		to[l.lit/2] = many
	}
	for _, l := range p.inputs {
		number(l)
	}
	for _, l := range p.latches {
		number(l.own)
	}
	for _, a := range ands {
		number(a.own)
	}
	lit := func(l placed) int { return 2*to[l.lit/2] + l.lit%2 }
	g := api.Graph{Ins: len(p.inputs)}
	for _, l := range p.latches {
		g.Next, g.Init = append(g.Next, lit(l.next)), append(g.Init, l.init)
	}
	for _, a := range ands {
		g.Ands = append(g.Ands, [2]int{lit(a.kids[0]), lit(a.kids[1])})
	}
	for _, l := range p.outs {
		g.Outs = append(g.Outs, lit(l))
	}
	return g
}
