package verilog

import (
	"slices"

	"patchbay/api"
	"patchbay/ident"
	"patchbay/net"
	"patchbay/order"
	"patchbay/spot"
	"patchbay/token"
)

// The kinds of tokens.
const (
	wordKind = 0
	markKind = 1
)

// parser reads a text token by token; it gives up by a panic with what is wrong, and where.
type parser struct {
	s      string
	tokens []token.Token
	// at is how many tokens were read.
	at    int
	ports []string
	c     api.Circuit
	// used are the names that no gate may have that an expression makes.
	used []string
}

// item reads what stands behind an item's word.
type item func(p *parser, word token.Token)

// items is by what each item is read.
func items() map[string]item {
	all := map[string]item{
		"input": (*parser).input, "output": (*parser).output, "wire": (*parser).wire, "assign": (*parser).assign,
	}
	for op, word := range gateWords() {
		if word != "" {
			all[word] = func(p *parser, _ token.Token) { p.gate(api.Op(op)) }
		}
	}
	for begin, word := range latchWords() {
		all[word] = func(p *parser, t token.Token) { p.latch(begin, t) }
	}
	return all
}

func (p *parser) fail(at int, e api.Errno) { panic(spot.Fail(p.s, at, e)) }

// next is the next token; where there is none, it gives up.
func (p *parser) next() token.Token {
	if p.at == len(p.tokens) {
		p.fail(len(p.s), api.ErrSyntax)
	}
	return p.tokens[p.at]
}

// is tells whether the next token is a word, or a mark, of that text.
func (p *parser) is(kind int, text string) bool {
	return p.at < len(p.tokens) && p.tokens[p.at].Kind == kind && p.tokens[p.at].Text == text
}

// must goes over a word, or a mark, that has to be next.
func (p *parser) must(kind int, text string) {
	if t := p.next(); !p.is(kind, text) {
		p.fail(t.At, api.ErrSyntax)
	}
	p.at++
}

func (p *parser) name() string {
	t := p.next()
	if t.Kind == markKind {
		p.fail(t.At, api.ErrSyntax)
	}
	s, e := ident.Word(api.FmtVerilog, t)
	if e != api.OK {
		p.fail(t.At, e)
	}
	p.at++
	return s
}

// names reads names, one at least, and the mark behind them.
func (p *parser) names(end string) []string {
	l := []string{p.name()}
	for p.is(markKind, ",") {
		p.at++
		l = append(l, p.name())
	}
	p.must(markKind, end)
	return l
}

func (p *parser) parse() api.Circuit {
	p.must(wordKind, "module")
	p.name()
	p.must(markKind, "(")
	if p.is(markKind, ")") {
		p.at++
	} else {
		p.ports = p.names(")")
	}
	p.must(markKind, ";")
	all := items()
	for !p.is(wordKind, "endmodule") {
		t := p.next()
		read, ok := all[t.Text]
		if t.Kind != wordKind || !ok {
			p.fail(t.At, api.ErrSyntax)
		}
		p.at++
		read(p, t)
	}
	p.at++
	if p.at < len(p.tokens) {
		p.fail(p.next().At, api.ErrSyntax)
	}
	p.check()
	return p.c
}

// check looks at the whole: first at the ports.
func (p *parser) check() {
	nets := slices.Concat(p.c.Inputs, p.c.Outputs)
	slices.Sort(nets)
	slices.Sort(p.ports)
	if !slices.Equal(p.ports, slices.Compact(nets)) {
		p.fail(0, api.ErrArg)
	}
	if e, s := order.Check(p.c); e != api.OK {
		p.fail(ident.Find(api.FmtVerilog, p.tokens, s), e)
	}
}

func (p *parser) input(token.Token) { p.c.Inputs = append(p.c.Inputs, p.names(";")...) }

func (p *parser) output(token.Token) { p.c.Outputs = append(p.c.Outputs, p.names(";")...) }

func (p *parser) wire(token.Token) { p.names(";") }

// instance reads the names of a gate, or a latch; a name ahead of them means nothing.
func (p *parser) instance() []string {
	if !p.is(markKind, "(") {
		p.name()
	}
	p.must(markKind, "(")
	l := p.names(")")
	p.must(markKind, ";")
	return l
}

func (p *parser) gate(op api.Op) {
	l := p.instance()
	p.c.Gates = append(p.c.Gates, net.Canon(api.Gate{Name: l[0], Op: op, Ins: l[1:]}))
}

func (p *parser) latch(begin int, word token.Token) {
	l := p.instance()
	if len(l) != 2 {
		p.fail(word.At, api.ErrArg)
	}
	p.c.Latches = append(p.c.Latches, api.Latch{Name: l[0], Next: l[1], Init: begin})
}
