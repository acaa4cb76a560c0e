package packed

import (
	"slices"

	"patchbay/aiger"
	"patchbay/api"
	"patchbay/digits"
	"patchbay/lower"
	"patchbay/spot"
)

const (
	blank   = ' '
	lineEnd = '\n'
)

// parser reads a text; it gives up by a panic with what is wrong, and where.
type parser struct {
	s  string
	at int
	// How many inputs, latches, ands, and outputs of three kinds there are.
	inputs, latches, ands int
	outs                  [3]int
}

func newParser(s string) *parser {
	h, at, f := aiger.Header(s, "aig")
	if f.Err != api.OK {
		panic(f)
	}
	p := &parser{s: s, at: at, inputs: h[1], latches: h[2], ands: h[4], outs: [3]int{h[3], h[5], h[6]}}
	if h[0] != p.numbers() {
		p.fail(0, api.ErrArg)
	}
	return p
}

// numbers is the greatest number.
func (p *parser) numbers() int { return p.inputs + p.latches + p.ands }

func (p *parser) fail(at int, e api.Errno) { panic(spot.Fail(p.s, at, e)) }

func (p *parser) model() api.Model {
	g := api.Graph{Ins: p.inputs}
	for i := range p.latches {
		next, begin := p.latch(2 * (1 + p.inputs + i))
		g.Next, g.Init = append(g.Next, next), append(g.Init, begin)
	}
	for range p.outs[0] + p.outs[1] + p.outs[2] {
		g.Outs = append(g.Outs, p.literal())
		p.must(lineEnd)
	}
	ands, at, e := Unands(p.s, p.at, 1+p.inputs+p.latches, p.ands)
	if e != api.OK {
		p.fail(at, e)
	}
	g.Ands = ands
	names, f := aiger.Symbols(p.s, at, [5]int{p.inputs, p.latches, p.outs[0], p.outs[1], p.outs[2]})
	if f.Err != api.OK {
		panic(f)
	}
	m := api.Model{Graph: g, Inputs: names[0], Latches: names[1], Outputs: slices.Concat(names[2], names[3], names[4])}
	if e := lower.Check(m); e != api.OK {
		p.fail(0, e)
	}
	return m
}

// latch is the literal that a latch takes over, and how it begins: its own literal stands for either.
func (p *parser) latch(own int) (int, int) {
	next, begin := p.literal(), 0
	if p.stands(blank) {
		p.at++
		at := p.at
		switch n := p.number(); n {
		case 0, 1:
			begin = n
		case own:
			begin = 2
		default:
			p.fail(at, api.ErrArg)
		}
	}
	p.must(lineEnd)
	return next, begin
}

func (p *parser) literal() int {
	at := p.at
	lit := p.number()
	if lit > 2*p.numbers()+1 {
		p.fail(at, api.ErrArg)
	}
	return lit
}

func (p *parser) number() int {
	n, end, e := digits.Get(p.s, p.at)
	if e != api.OK {
		p.fail(p.at, api.ErrNumber)
	}
	p.at = end
	return n
}

// stands tells whether a byte is next.
func (p *parser) stands(c byte) bool { return p.at < len(p.s) && p.s[p.at] == c }

// must goes over a byte that has to be next.
func (p *parser) must(c byte) {
	if !p.stands(c) {
		p.fail(p.at, api.ErrSyntax)
	}
	p.at++
}
