package lower

import (
	"patchbay/aig"
	"patchbay/api"
	"patchbay/cover"
	"patchbay/net"
	"patchbay/order"
)

// The kinds of nodes of cover's forms.
const (
	formFalse = iota
	formTrue
	formLiteral
	formAnd
)

// builder makes a graph, and by and by; it gives up by a panic with an error's number.
type builder struct {
	graph api.Graph
	// literals is what each net's literal is.
	literals map[string]int
}

// maker makes the literal of a gate, of those of its Ins.
type maker func(b *builder, g api.Gate, ins []int) int

// makers is by what each op is made.
func makers() map[api.Op]maker {
	return map[api.Op]maker{
		api.OpZero: (*builder).zero, api.OpOne: (*builder).one, api.OpBuf: (*builder).buf, api.OpNot: (*builder).not,
		api.OpAnd: (*builder).and, api.OpNand: (*builder).nand, api.OpOr: (*builder).or, api.OpNor: (*builder).nor,
		api.OpXor: (*builder).xor, api.OpXnor: (*builder).xnor, api.OpCover: (*builder).cover,
	}
}

// build is the graph of a netlist that may be.
func build(c api.Circuit) api.Graph {
	b := &builder{literals: map[string]int{}}
	for i, s := range net.Nets(c)[:len(c.Inputs)+len(c.Latches)] {
		b.literals[s] = 2 * (1 + i)
	}
	b.graph.Ins = len(c.Inputs)
	b.graph.Next = make([]int, len(c.Latches))
	for _, l := range c.Latches {
		b.graph.Init = append(b.graph.Init, l.Init)
	}
	made := makers()
	places, _ := order.Sort(c)
	for _, i := range places {
		g := c.Gates[i]
		b.literals[g.Name] = made[g.Op](b, g, b.of(g.Ins))
	}
	for i, l := range c.Latches {
		b.graph.Next[i] = b.literals[l.Next]
	}
	b.graph.Outs = b.of(c.Outputs)
	return must(aig.Normal(b.graph))
}

func must(g api.Graph, e api.Errno) api.Graph {
	if e != api.OK {
		panic(e)
	}
	return g
}

// of is the literals of nets.
func (b *builder) of(names []string) []int {
	var all []int
	for _, s := range names {
		all = append(all, b.literals[s])
	}
	return all
}

// two is the literal that two are.
func (b *builder) two(x, y int) int {
	g, lit, e := aig.And(b.graph, x, y)
	b.graph = must(g, e)
	return lit
}

// all is the literal that all are, put together from the first one on.
func (b *builder) all(l []int) int { return joined(len(l), asIs(l), b.two) }

// some is the literal that one of some is.
func (b *builder) some(l []int) int { return turned(joined(len(l), allTurned(l), b.two)) }

// odd is the literal that an odd number of two are.
func (b *builder) odd(x, y int) int {
	p := b.two(x, turned(y))
	q := b.two(turned(x), y)
	r := b.two(turned(p), turned(q))
	return turned(r)
}

func (b *builder) zero(g api.Gate, ins []int) int { return 0 }

func (b *builder) one(g api.Gate, ins []int) int { return 1 }

func (b *builder) buf(g api.Gate, ins []int) int { return ins[0] }

func (b *builder) not(g api.Gate, ins []int) int { return turned(ins[0]) }

func (b *builder) and(g api.Gate, ins []int) int { return b.all(ins) }

func (b *builder) nand(g api.Gate, ins []int) int { return turned(b.all(ins)) }

func (b *builder) or(g api.Gate, ins []int) int { return b.some(ins) }

func (b *builder) nor(g api.Gate, ins []int) int { return turned(b.some(ins)) }

func (b *builder) xor(g api.Gate, ins []int) int { return joined(len(ins), asIs(ins), b.odd) }

func (b *builder) xnor(g api.Gate, ins []int) int { return turned(joined(len(ins), asIs(ins), b.odd)) }

func (b *builder) cover(g api.Gate, ins []int) int {
	nodes, e := cover.Factor(g.Rows, len(g.Ins))
	if e != api.OK {
		panic(e)
	}
	lit, _ := b.form(nodes, ins)
	if g.Off {
		return turned(lit)
	}
	return lit
}

// form is the literal of the first form of nodes, and the nodes behind it. All kids are built before they are put together.
func (b *builder) form(nodes []cover.Form, ins []int) (int, []cover.Form) {
	f, rest := nodes[0], nodes[1:]
	switch f.Kind {
	case formFalse, formTrue:
		return f.Kind, rest
	case formLiteral:
		return ins[f.Lit/2] ^ f.Lit%2, rest
	}
	var kids []int
	for range f.Kids {
		var kid int
		kid, rest = b.form(rest, ins)
		kids = append(kids, kid)
	}
	if f.Kind == formAnd {
		return b.all(kids), rest
	}
	return b.some(kids), rest
}

// joined puts n literals together two by two, from the first one on.
func joined(n int, at func(i int) int, two func(x, y int) int) int {
	lit := at(0)
	for i := 1; i < n; i++ {
		lit = two(lit, at(i))
	}
	return lit
}

func turned(lit int) int { return lit ^ 1 }

// asIs tells literals by their places.
func asIs(l []int) func(i int) int {
	return func(i int) int { return l[i] }
}

// allTurned tells literals by their places, each one turned.
func allTurned(l []int) func(i int) int {
	return func(i int) int { return turned(l[i]) }
}
