package bench

import (
	"patchbay/api"
	"patchbay/cover"
	"patchbay/ident"
	"patchbay/net"
)

// The kinds of nodes of cover's forms.
const (
	formFalse = iota
	formTrue
	formLiteral
	formAnd
)

// stem is what the names of gates begin with that are made here.
const stem = "n"

// builder makes gates of covers; it gives up by a panic with an error's number.
type builder struct {
	c api.Circuit
	// used are the names that no gate may have that is made.
	used []string
	// nots is, for each net that was asked for turned, where in used the name of that net stands.
	nots map[string]int
}

func newBuilder(c api.Circuit) *builder {
	return &builder{c: clone(c), used: net.Nets(c), nots: map[string]int{}}
}

// put puts a gate behind the others.
func (b *builder) put(g api.Gate) {
	b.c.Gates = append(b.c.Gates, g)
	if len(b.c.Inputs)+len(b.c.Latches)+len(b.c.Gates) > api.MaxNets {
		panic(api.ErrLimit)
	}
}

// made is the name of a gate that is made.
func (b *builder) made(op api.Op, ins []string) string {
	name := ident.Fresh(b.used, stem)
	b.used = append(b.used, name)
	b.put(api.Gate{Name: name, Op: op, Ins: ins})
	return name
}

// not is the net of another one turned.
func (b *builder) not(s string) string {
	if i, ok := b.nots[s]; ok {
		return b.used[i]
	}
	b.nots[s] = len(b.used)
	return b.made(api.OpNot, []string{s})
}

// few is as many kids as one gate may have: of the first ones gates are made, as long as there are too many.
func (b *builder) few(op api.Op, kids []string) []string {
	for len(kids) > api.MaxIns {
		first := b.made(op, append([]string{}, kids[:api.MaxIns]...))
		kids = append([]string{first}, kids[api.MaxIns:]...)
	}
	return kids
}

func (b *builder) and(kids []string) string { return b.made(api.OpAnd, b.few(api.OpAnd, kids)) }

func (b *builder) or(kids []string) string { return b.made(api.OpOr, b.few(api.OpOr, kids)) }

// cover puts the gates of a cover; the last one has its name.
func (b *builder) cover(g api.Gate) {
	nodes, e := cover.Factor(g.Rows, len(g.Ins))
	if e != api.OK {
		panic(e)
	}
	last := b.last(nodes, g.Ins)
	if g.Off {
		last.Op = other(last.Op)
	}
	last.Name = g.Name
	b.put(last)
}

// last is the gate of the first one of nodes.
func (b *builder) last(nodes []cover.Form, ins []string) api.Gate {
	f := nodes[0]
	switch f.Kind {
	case formFalse:
		return api.Gate{Op: api.OpZero}
	case formTrue:
		return api.Gate{Op: api.OpOne}
	case formLiteral:
		op := api.OpBuf
		if f.Lit%2 == 1 {
			op = api.OpNot
		}
		return api.Gate{Op: op, Ins: []string{ins[f.Lit/2]}}
	}
	op := api.OpOr
	if f.Kind == formAnd {
		op = api.OpAnd
	}
	kids, _ := b.kids(nodes, ins)
	return api.Gate{Op: op, Ins: b.few(op, kids)}
}

// kids are the nets of the kids of the first one of nodes, and the nodes behind it.
func (b *builder) kids(nodes []cover.Form, ins []string) ([]string, []cover.Form) {
	var all []string
	rest := nodes[1:]
	for range nodes[0].Kids {
		var kid string
		kid, rest = b.net(rest, ins)
		all = append(all, kid)
	}
	return all, rest
}

// net is the net of the first one of nodes, and the nodes behind it.
func (b *builder) net(nodes []cover.Form, ins []string) (string, []cover.Form) {
	f := nodes[0]
	if f.Kind == formLiteral {
		s := ins[f.Lit/2]
		if f.Lit%2 == 1 {
			s = b.not(s)
		}
		return s, nodes[1:]
	}
	join := b.or
	if f.Kind == formAnd {
		join = b.and
	}
	kids, rest := b.kids(nodes, ins)
	return join(kids), rest
}

// other is the op that turns what an op comes to.
func other(op api.Op) api.Op {
	switch op {
	case api.OpZero:
		return api.OpOne
	case api.OpOne:
		return api.OpZero
	case api.OpBuf:
		return api.OpNot
	case api.OpNot:
		return api.OpBuf
	case api.OpAnd:
		return api.OpNand
	}
	return api.OpNor
}
