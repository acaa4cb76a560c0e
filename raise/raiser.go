package raise

import (
	"slices"

	"patchbay/api"
	"patchbay/ident"
	"patchbay/lower"
)

// stem is what the names of gates begin with that the model does not name.
const stem = "n"

// raiser makes the gates of a model.
type raiser struct {
	m api.Model
	// used are the names that no other gate may have.
	used []string
	// nets is where in used the name of a literal's net stands.
	nets map[int]int
	// tell is told each gate, one behind the other.
	tell func(g api.Gate)
}

// maker makes the net of a literal.
type maker interface {
	// made is what the net's gate does, and of which nets.
	made(r *raiser) (api.Op, []string)
}

// constant is the literal 0 or 1.
type constant int

func (c constant) made(*raiser) (api.Op, []string) { return constantOp(int(c)), nil }

// turned is a literal that turns another one.
type turned int

func (t turned) made(r *raiser) (api.Op, []string) { return api.OpNot, []string{r.net(int(t) - 1)} }

// and is both literals of an and.
type and [2]int

func (a and) made(r *raiser) (api.Op, []string) {
	first := r.net(a[0])
	return api.OpAnd, []string{first, r.net(a[1])}
}

func newRaiser(m api.Model) *raiser {
	r := &raiser{m: m, used: slices.Concat(m.Inputs, m.Latches, m.Outputs), nets: map[int]int{}}
	for i := range len(m.Inputs) + len(m.Latches) {
		r.nets[2*(i+1)] = i
	}
	return r
}

func (r *raiser) raise() api.Circuit {
	c := api.Circuit{Inputs: slices.Clone(r.m.Inputs), Outputs: slices.Clone(r.m.Outputs)}
	r.tell = func(g api.Gate) { c.Gates = append(c.Gates, g) }
	for i, a := range r.m.Graph.Ands {
		r.build(2*(1+len(r.m.Inputs)+len(r.m.Latches)+i), and(a))
	}
	for i, s := range r.m.Latches {
		c.Latches = append(c.Latches, api.Latch{Name: s, Next: r.net(r.m.Graph.Next[i]), Init: r.m.Graph.Init[i]})
	}
	for i, s := range r.m.Outputs {
		if lower.Place(r.m, s) < 0 {
			r.output(s, r.m.Graph.Outs[i])
		}
	}
	return c
}

// net is the net of a literal; it is made, if it is not there.
func (r *raiser) net(lit int) string {
	if i, ok := r.nets[lit]; ok {
		return r.used[i]
	}
	if lit <= 1 {
		return r.build(lit, constant(lit))
	}
	return r.build(lit, turned(lit))
}

// build makes the net of a literal, and its name.
func (r *raiser) build(lit int, by maker) string {
	op, ins := by.made(r)
	name := ident.Fresh(r.used, stem)
	r.nets[lit] = len(r.used)
	r.used = append(r.used, name)
	r.tell(api.Gate{Name: name, Op: op, Ins: ins})
	return name
}

// output tells the gate of an output.
func (r *raiser) output(name string, lit int) {
	switch {
	case lit <= 1:
		r.tell(api.Gate{Name: name, Op: constantOp(lit)})
	case isTurned(lit):
		r.tell(api.Gate{Name: name, Op: api.OpNot, Ins: []string{r.net(lit - 1)}})
	default:
		r.tell(api.Gate{Name: name, Op: api.OpBuf, Ins: []string{r.net(lit)}})
	}
}

func constantOp(lit int) api.Op {
	if lit == 1 {
		return api.OpOne
	}
	return api.OpZero
}
