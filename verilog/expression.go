package verilog

import (
	"patchbay/api"
	"patchbay/ident"
	"patchbay/token"
)

// stem is what the names of gates begin with that expressions make.
const stem = "n"

// operand is the net of a part of an expression, and whether a gate was made for it.
type operand struct {
	net  string
	made bool
}

// assign reads an expression; the last gate that it makes has the name that is assigned.
func (p *parser) assign(token.Token) {
	name := p.name()
	p.must(markKind, "=")
	whole := p.expression()
	p.must(markKind, ";")
	if !whole.made {
		p.put(name, api.OpBuf, whole.net)
		return
	}
	last := &p.c.Gates[len(p.c.Gates)-1]
	if n := len(p.used) - 1; n >= 0 && p.used[n] == last.Name {
		p.used = p.used[:n]
	}
	last.Name = name
}

func (p *parser) put(name string, op api.Op, ins ...string) {
	p.c.Gates = append(p.c.Gates, api.Gate{Name: name, Op: op, Ins: ins})
}

// fresh makes a gate of a name that is not used.
func (p *parser) fresh(op api.Op, ins ...string) operand {
	name := ""
	if len(p.c.Gates) < api.MaxNets { // of more the netlist is none, whatever their names
		name = ident.Fresh(p.used, stem)
		p.used = append(p.used, name)
	}
	p.put(name, op, ins...)
	return operand{net: name, made: true}
}

func (p *parser) expression() operand { return p.joined("|", api.OpOr, p.term) }

func (p *parser) term() operand { return p.joined("^", api.OpXor, p.factor) }

func (p *parser) factor() operand { return p.joined("&", api.OpAnd, p.atom) }

// joined reads parts of the next level, and joins them from the first one on.
func (p *parser) joined(mark string, op api.Op, part func() operand) operand {
	left := part()
	for p.is(markKind, mark) {
		p.at++
		right := part()
		left = p.fresh(op, left.net, right.net)
	}
	return left
}

func (p *parser) atom() operand {
	switch {
	case p.is(markKind, "~"):
		p.at++
		return p.fresh(api.OpNot, p.atom().net)
	case p.is(markKind, "("):
		p.at++
		inner := p.expression()
		p.must(markKind, ")")
		return inner
	case p.is(wordKind, zeroWord):
		p.at++
		return p.fresh(api.OpZero)
	case p.is(wordKind, oneWord):
		p.at++
		return p.fresh(api.OpOne)
	}
	return operand{net: p.name()}
}
